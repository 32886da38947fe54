package belt

import (
	"midden/api"
	"midden/cells"
	"midden/turn"
)

// The words ahead of the places' values.
const (
	tail  = 0
	head  = 1
	marks = 2
)

// freeFor, givenAt: a place's mark when it is free for a turn, and when what was given at that turn stands there.
func freeFor(number uint64) uint64 { return 2 * number }
func givenAt(number uint64) uint64 { return 2*number + 1 }

// The states of the chapter's tables, by their order there.
const (
	toFind  = iota // whose turn it is
	toLook         // whether its place is ready
	toTake         // the turn
	toTouch        // the place's value
	toLeave        // the place to whoever comes next
)

// A passing is a job under way. Give and Fetch go one way: each counts its own turns, and leaves a place with the mark
// that the other one looks for.
type passing struct {
	hand, room  int
	kind, count int // count: the word with the turns
	state       int
	number      uint64 // of the turn that was found last
	value       uint64
	told        api.Answer
}

func (p *passing) Answer() api.Answer { return p.told }

func (p *passing) Step(m *cells.Mem) (api.Step, int) {
	switch p.state {
	case toFind:
		return p.find(m)
	case toLook:
		return p.look(m)
	case toTake:
		return p.take(m)
	case toTouch:
		return p.touch(m)
	}
	return p.leave(m)
}

func (p *passing) mark() int { return marks + int(p.number%uint64(p.room)) }

// ready: the mark with which the turn may be taken.
func (p *passing) ready() uint64 {
	if p.kind == Give {
		return freeFor(p.number)
	}
	return givenAt(p.number)
}

// done: the mark that the turn leaves.
func (p *passing) done() uint64 {
	if p.kind == Give {
		return givenAt(p.number)
	}
	return freeFor(p.number + uint64(p.room))
}

func (p *passing) find(m *cells.Mem) (api.Step, int) {
	s := m.Do(p.hand, api.Load, p.count, 0, 0)
	p.number, p.state = s.Had, toLook
	return s, turn.Going
}

// look: a mark that is behind is left to another hand, which may never come; one that is ahead tells that the turn is
// somebody's already.
func (p *passing) look(m *cells.Mem) (api.Step, int) {
	s := m.Do(p.hand, api.Load, p.mark(), 0, 0)
	ahead := int64(s.Had - p.ready())
	if ahead < 0 {
		return s, turn.Ended
	}
	p.state = toTake
	if ahead > 0 {
		p.state = toFind
	}
	return s, turn.Going
}

func (p *passing) take(m *cells.Mem) (api.Step, int) {
	s := m.Do(p.hand, api.CAS, p.count, p.number, p.number+1)
	p.state = toTouch
	if !s.OK {
		p.state = toFind
	}
	return s, turn.Going
}

func (p *passing) touch(m *cells.Mem) (api.Step, int) {
	p.state = toLeave
	at := p.mark() + p.room
	if p.kind == Give {
		return m.Do(p.hand, api.Store, at, 0, p.value), turn.Going
	}
	s := m.Do(p.hand, api.Load, at, 0, 0)
	p.value = s.Had
	return s, turn.Going
}

func (p *passing) leave(m *cells.Mem) (api.Step, int) {
	s := m.Do(p.hand, api.Store, p.mark(), 0, p.done())
	p.told = api.Answer{OK: true, Val: p.value}
	if p.kind == Give { // tells the turn, not the value
		p.told.Val = p.number
	}
	return s, turn.Ended
}
