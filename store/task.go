package store

import (
	"midden/api"
	"midden/cells"
	"midden/heap"
	"midden/shade"
	"midden/turn"
)

// A storing is a store under way.
type storing struct {
	heap.Work
	sh     api.Shape
	at     int // the word that is stored into
	h      uint64
	colour int
}

func newStoring(sh api.Shape, hand, at int, h uint64, bar bool, colour int) turn.Task {
	k := &storing{sh: sh, at: at, h: h, colour: colour}
	if bar {
		k.Begin(hand, k.look)
	} else {
		k.Begin(hand, k.put)
	}
	return k
}

// look: what stands there is shaded ahead of the store, for the way that is cut off by it may be the last one that the collector
// would have come along.
func (k *storing) look(m *cells.Mem) (api.Step, int) {
	s := k.Load(m, k.at)
	return s, k.shade(s.Had, k.shadeOwn)
}

// shadeOwn: what is stored may go into an object that the collector has looked at already.
func (k *storing) shadeOwn(api.Answer) int { return k.shade(k.h, k.putNext) }

func (k *storing) putNext(api.Answer) int { return k.GoOn(k.put) }

func (k *storing) put(m *cells.Mem) (api.Step, int) { return k.Store(m, k.at, k.h), k.End(0) }

// shade: none is a handle of nothing, and takes no step.
func (k *storing) shade(h uint64, behind heap.Behind) int {
	if h == 0 {
		return behind(api.Answer{})
	}
	return k.GoAlong(shade.Mark(k.sh, k.Hand(), h, k.colour), behind)
}
