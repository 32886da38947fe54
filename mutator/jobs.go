package mutator

import (
	"midden/api"
	"midden/cells"
	"midden/final"
	"midden/heap"
	"midden/room"
	"midden/store"
	"midden/weak"
	"midden/word"
)

// A making is a New under way.
type making struct{ *common }

func (k *making) onward() int {
	return k.GoAlong(room.Make(k.sh, k.Hand(), k.asked.B == 1, k.colour()), k.keepTold(k.asked.A))
}

// A reaching is what Get and Put have in common: they go by the object in root A.
type reaching struct {
	*common
	object uint64     // its handle
	inside func() int // how the job goes on, if the object is there
}

func (k *reaching) reach(inside func() int) int {
	k.inside = inside
	return k.GoOn(k.findObject)
}

func (k *reaching) findObject(m *cells.Mem) (api.Step, int) {
	s := k.loadRoot(m, k.asked.A)
	k.object = s.Had
	if !heap.IsNumber(k.sh, k.index()) {
		return s, k.Refuse()
	}
	return s, k.GoOn(k.judge)
}

// judge: a root by hand may show an object that isn't there, or isn't there any more.
func (k *reaching) judge(m *cells.Mem) (api.Step, int) {
	s := k.Load(m, heap.HeadAt(k.sh, k.index()))
	if o, _ := word.Unpack(s.Had); !o.Used || o.Gen != word.Gen(k.object) {
		return s, k.Refuse()
	}
	return s, k.inside()
}

func (k *reaching) index() int { return word.Index(k.object) }

// A getting is a Get under way.
type getting struct{ reaching }

func (k *getting) onward() int   { return k.reach(k.goToSlot) }
func (k *getting) goToSlot() int { return k.GoOn(k.get) }

func (k *getting) get(m *cells.Mem) (api.Step, int) {
	s := k.Load(m, heap.SlotAt(k.sh, k.index(), k.asked.B))
	return s, k.keep(k.asked.C, s.Had)
}

// A putting is a Put under way.
type putting struct{ reaching }

func (k *putting) onward() int { return k.reach(k.goToRoot) }

func (k *putting) goToRoot() int {
	if k.asked.C == noRoot {
		return k.put(0)
	}
	return k.GoOn(k.fetch)
}

func (k *putting) fetch(m *cells.Mem) (api.Step, int) {
	s := k.loadRoot(m, k.asked.C)
	return s, k.put(s.Had)
}

func (k *putting) put(h uint64) int {
	return k.endAlong(store.Slot(k.sh, k.Hand(), k.index(), k.asked.B, h, k.hasBarrier(), k.colour()), h)
}

// A copying is a Copy under way.
type copying struct{ *common }

func (k *copying) onward() int { return k.GoOn(k.fetch) }

func (k *copying) fetch(m *cells.Mem) (api.Step, int) {
	s := k.loadRoot(m, k.asked.A)
	return s, k.keep(k.asked.C, s.Had)
}

// A dropping is a Drop under way.
type dropping struct{ *common }

func (k *dropping) onward() int { return k.keep(k.asked.A, 0) }

// A showing is a MakeWeak under way.
type showing struct{ *common }

func (k *showing) onward() int { return k.GoOn(k.fetch) }

func (k *showing) fetch(m *cells.Mem) (api.Step, int) {
	s := k.loadRoot(m, k.asked.A)
	return s, k.endAlong(weak.Set(k.sh, k.Hand(), k.asked.B, s.Had), s.Had)
}

// A seeing is a GetWeak under way.
type seeing struct{ *common }

func (k *seeing) onward() int {
	return k.GoAlong(weak.Get(k.sh, k.Hand(), k.asked.B, k.phase(), k.colour()), k.goBySeen)
}

// goBySeen: where the weak word can't tell yet whether its object is dead, the job goes by the next phase word that it loads, and tells
// it: the collector waits for that.
func (k *seeing) goBySeen(told api.Answer) int {
	switch {
	case !told.OK:
		return k.GoOn(k.look)
	case told.Val == 0:
		return k.Refuse()
	}
	return k.keep(k.asked.C, told.Val)
}

// A taking is a Take under way.
type taking struct{ *common }

func (k *taking) onward() int {
	return k.GoAlong(final.Take(k.sh, k.Hand()), k.keepTold(k.asked.C))
}

// A polling is a Poll under way.
type polling struct{ *common }

func (k *polling) onward() int { return k.End(k.moment) }

// A leaving is a Bye under way. It has no beginning: it goes by no phase.
type leaving struct {
	heap.Work
	ack int
}

func (k *leaving) leave(m *cells.Mem) (api.Step, int) { return k.Store(m, k.ack, tellsAll), k.End(0) }
