package shade

import (
	"midden/api"
	"midden/cells"
	"midden/shape"
	"midden/turn"
	"midden/word"
)

// colourBit: of an object's head.
const colourBit uint64 = 1 << 1

// noWord: where no memory has a word.
const noWord = -1

// placesOf: where an object's head and link stand, and whether the shape has that object.
func placesOf(sh api.Shape, index int) (head, link int, isThere bool) {
	head, errno := shape.Object(sh, index)
	if errno != api.OK {
		return noWord, noWord, false
	}
	return head, head + 1, true
}

// A work is what both tasks have in common. What it does next stands in it as a function: each act, when it is made, puts
// there what follows it.
type work struct {
	hand int
	next func(m *cells.Mem) (api.Step, int)
	grey uint64 // the word Grey, as it was loaded last
	told api.Answer
}

func (w *work) Step(m *cells.Mem) (api.Step, int) { return w.next(m) }

func (w *work) Answer() api.Answer { return w.told }

func (w *work) load(m *cells.Mem, at int) api.Step { return m.Do(w.hand, api.Load, at, 0, 0) }

func (w *work) cas(m *cells.Mem, at int, old, v uint64) api.Step {
	return m.Do(w.hand, api.CAS, at, old, v)
}

func (w *work) loadGrey(m *cells.Mem) api.Step {
	s := w.load(m, api.Grey)
	w.grey = s.Had
	return s
}

// turnGrey: the tag grows with each turn, so a list that has gone on since it was loaded isn't taken for the same one.
func (w *work) turnGrey(m *cells.Mem, first int) api.Step {
	return w.cas(m, api.Grey, w.grey, word.Bump(w.grey, first))
}

func (w *work) goOn(next func(m *cells.Mem) (api.Step, int)) int {
	w.next = next
	return turn.Going
}

// end: the object is this one, and the task is done.
func (w *work) end(index int) int {
	w.told = api.Answer{OK: true, Val: uint64(index)}
	return turn.Ended
}

// A marking is a Mark under way.
type marking struct {
	work
	index      int
	gen        uint64
	colour     int
	head, link int    // where they stand
	seen       uint64 // the head, as it was loaded last
}

func (k *marking) look(m *cells.Mem) (api.Step, int) {
	s := k.load(m, k.head)
	if !word.White(s.Had, k.gen, k.colour) {
		return s, turn.Ended
	}
	k.seen = s.Had
	return s, k.goOn(k.paint)
}

// paint: of several hands at one object, the one whose CAS is done puts it on the list, and no other.
func (k *marking) paint(m *cells.Mem) (api.Step, int) {
	s := k.cas(m, k.head, k.seen, k.seen^colourBit)
	if !s.OK {
		return s, k.goOn(k.look)
	}
	return s, k.goOn(k.meet)
}

func (k *marking) meet(m *cells.Mem) (api.Step, int) {
	return k.loadGrey(m), k.goOn(k.tie)
}

// tie: only who has turned the colour comes here, so the link needs no CAS.
func (k *marking) tie(m *cells.Mem) (api.Step, int) {
	return m.Do(k.hand, api.Store, k.link, 0, uint64(word.Index(k.grey))), k.goOn(k.lay)
}

func (k *marking) lay(m *cells.Mem) (api.Step, int) {
	s := k.turnGrey(m, k.index)
	if !s.OK {
		return s, k.goOn(k.meet)
	}
	return s, k.end(k.index)
}

// A pulling is a Pull under way.
type pulling struct {
	work
	sh    api.Shape
	index int // the list's first one
	link  int // where its link stands
	below int // what its link shows
}

func (p *pulling) find(m *cells.Mem) (api.Step, int) {
	s := p.loadGrey(m)
	p.index = word.Index(s.Had)
	_, link, isThere := placesOf(p.sh, p.index)
	if !isThere {
		return s, turn.Ended
	}
	p.link = link
	return s, p.goOn(p.peek)
}

func (p *pulling) peek(m *cells.Mem) (api.Step, int) {
	s := p.load(m, p.link)
	p.below = word.Index(s.Had)
	return s, p.goOn(p.take)
}

// take: the link may be stale by now, but then Grey has another tag, and the CAS is not done.
func (p *pulling) take(m *cells.Mem) (api.Step, int) {
	s := p.turnGrey(m, p.below)
	if !s.OK {
		return s, p.goOn(p.find)
	}
	return s, p.end(p.index)
}
