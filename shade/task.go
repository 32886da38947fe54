package shade

import (
	"midden/api"
	"midden/cells"
	"midden/heap"
	"midden/word"
)

// colourBit: of an object's head.
const colourBit uint64 = 1 << 1

// A marking is a Mark under way.
type marking struct {
	heap.Work
	index      int
	gen        uint64
	colour     int
	head, link int    // where they stand
	seen       uint64 // the head, as it was loaded last
}

func (k *marking) look(m *cells.Mem) (api.Step, int) {
	s := k.Load(m, k.head)
	if !word.White(s.Had, k.gen, k.colour) {
		return s, k.Refuse()
	}
	k.seen = s.Had
	return s, k.GoOn(k.paint)
}

// paint: of several hands at one object, the one whose CAS is done puts it on the list, and no other.
func (k *marking) paint(m *cells.Mem) (api.Step, int) {
	s := k.CAS(m, k.head, k.seen, k.seen^colourBit)
	if !s.OK {
		return s, k.GoOn(k.look)
	}
	return s, k.GoOn(k.meet)
}

func (k *marking) meet(m *cells.Mem) (api.Step, int) {
	return k.LoadList(m, api.Grey), k.GoOn(k.tie)
}

// tie: only who has turned the colour comes here, so the link needs no CAS.
func (k *marking) tie(m *cells.Mem) (api.Step, int) {
	return k.Store(m, k.link, uint64(k.First())), k.GoOn(k.lay)
}

func (k *marking) lay(m *cells.Mem) (api.Step, int) {
	s := k.TurnList(m, api.Grey, k.index)
	if !s.OK {
		return s, k.GoOn(k.meet)
	}
	return s, k.End(uint64(k.index))
}

// A pulling is a Pull under way.
type pulling struct {
	heap.Work
	sh    api.Shape
	below int // what the first one's link shows
}

func (p *pulling) find(m *cells.Mem) (api.Step, int) {
	s := p.LoadList(m, api.Grey)
	if !heap.IsNumber(p.sh, p.First()) {
		return s, p.Refuse()
	}
	return s, p.GoOn(p.peek)
}

func (p *pulling) peek(m *cells.Mem) (api.Step, int) {
	s := p.Load(m, heap.LinkAt(p.sh, p.First()))
	p.below = word.Index(s.Had)
	return s, p.GoOn(p.take)
}

// take: the link may be stale by now, but then Grey has another tag, and the CAS is not done.
func (p *pulling) take(m *cells.Mem) (api.Step, int) {
	s := p.TurnList(m, api.Grey, p.below)
	if !s.OK {
		return s, p.GoOn(p.find)
	}
	return s, p.End(uint64(p.First()))
}
