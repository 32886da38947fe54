package pile

import (
	"midden/api"
	"midden/cells"
	"midden/turn"
	"midden/word"
)

// The words of the two lists' heads.
const (
	top   = 0
	spare = 1
)

// A place's words. For an index of no place they lie past the memory's end, as the chapter has it.
func linkOf(place int) int  { return 2 * place }
func valueOf(place int) int { return 2*place + 1 }

// The states of the chapter's tables, by their numbers there.
const (
	toFind  = iota // what lies first in the list from which a place comes
	toLook         // what lies below it
	toTake         // off that list
	toTouch        // its value
	toMeet         // what lies first in the list onto which it goes
	toLink         // that one below it
	toLay          // onto that list
)

// A carrying is a job under way. Push and Pop go one way, in opposite directions: a place is taken off one list and
// laid onto the other one.
type carrying struct {
	hand, kind int
	from, onto int // the heads' words
	state      int
	head       uint64 // the list's head, as it was loaded last
	place      int
	below      int // what the place's link shows
	value      uint64
	told       api.Answer
}

func (c *carrying) Answer() api.Answer { return c.told }

func (c *carrying) Step(m *cells.Mem) (api.Step, int) {
	switch c.state {
	case toFind:
		return c.find(m)
	case toLook:
		return c.look(m)
	case toTake:
		return c.take(m)
	case toTouch:
		return c.touch(m)
	case toMeet:
		return c.meet(m)
	case toLink:
		return c.link(m)
	}
	return c.lay(m)
}

func (c *carrying) find(m *cells.Mem) (api.Step, int) {
	s := m.Do(c.hand, api.Load, c.from, 0, 0)
	c.head, c.place = s.Had, word.Index(s.Had)
	if c.place == 0 {
		return s, turn.Ended
	}
	c.state = toLook
	return s, turn.Going
}

func (c *carrying) look(m *cells.Mem) (api.Step, int) {
	s := m.Do(c.hand, api.Load, linkOf(c.place), 0, 0)
	c.below, c.state = word.Index(s.Had), toTake
	return s, turn.Going
}

// take: the link may be stale by now, but then the head has another tag, and the CAS is not done.
func (c *carrying) take(m *cells.Mem) (api.Step, int) {
	s := m.Do(c.hand, api.CAS, c.from, c.head, word.Bump(c.head, c.below))
	c.state = toTouch
	if !s.OK {
		c.state = toFind
	}
	return s, turn.Going
}

func (c *carrying) touch(m *cells.Mem) (api.Step, int) {
	c.state = toMeet
	if c.kind == Push {
		return m.Do(c.hand, api.Store, valueOf(c.place), 0, c.value), turn.Going
	}
	s := m.Do(c.hand, api.Load, valueOf(c.place), 0, 0)
	c.value = s.Had
	return s, turn.Going
}

func (c *carrying) meet(m *cells.Mem) (api.Step, int) {
	s := m.Do(c.hand, api.Load, c.onto, 0, 0)
	c.head, c.state = s.Had, toLink
	return s, turn.Going
}

func (c *carrying) link(m *cells.Mem) (api.Step, int) {
	c.state = toLay
	return m.Do(c.hand, api.Store, linkOf(c.place), 0, uint64(word.Index(c.head))), turn.Going
}

func (c *carrying) lay(m *cells.Mem) (api.Step, int) {
	s := m.Do(c.hand, api.CAS, c.onto, c.head, word.Bump(c.head, c.place))
	if !s.OK {
		c.state = toMeet
		return s, turn.Going
	}
	c.told = api.Answer{OK: true, Val: c.value}
	if c.kind == Push { // tells where the value lies, not the value
		c.told.Val = uint64(c.place)
	}
	return s, turn.Ended
}
