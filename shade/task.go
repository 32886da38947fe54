package shade

import (
	"midden/api"
	"midden/cells"
	"midden/heap"
	"midden/word"
)

// A marking is a Mark under way.
type marking struct {
	heap.Work
	sh     api.Shape
	index  int
	gen    uint64
	colour int
	seen   uint64 // the head, as it was loaded last
}

func (k *marking) look(m *cells.Mem) (api.Step, int) {
	s := k.Load(m, heap.HeadAt(k.sh, k.index))
	if !word.White(s.Had, k.gen, k.colour) {
		return s, k.Refuse()
	}
	k.seen = s.Had
	return s, k.GoOn(k.paint)
}

// paint: of several hands at one object, the one whose CAS is done puts it on the list, and no other.
func (k *marking) paint(m *cells.Mem) (api.Step, int) {
	s := k.CAS(m, heap.HeadAt(k.sh, k.index), k.seen, k.seen^heap.ColourBit)
	if !s.OK {
		return s, k.GoOn(k.look)
	}
	return s, k.GoAlong(heap.Lay(k.sh, k.Hand(), api.Grey, k.index), k.leave)
}

func (k *marking) leave(api.Answer) int { return k.End(uint64(k.index)) }
