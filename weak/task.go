package weak

import (
	"midden/api"
	"midden/cells"
	"midden/heap"
	"midden/shade"
	"midden/turn"
	"midden/word"
)

// lookAgain: what a Get tells that can't say what the weak word shows.
const lookAgain = 1

// A setting is a Set under way.
type setting struct {
	heap.Work
	at int // the weak word
	h  uint64
}

func newSetting(hand, at int, h uint64) turn.Task {
	k := &setting{at: at, h: h}
	k.Begin(hand, k.put)
	return k
}

func (k *setting) put(m *cells.Mem) (api.Step, int) { return k.Store(m, k.at, k.h), k.End(k.h) }

// A getting is a Get under way.
type getting struct {
	heap.Work
	sh     api.Shape
	at     int // the weak word
	phase  int
	colour int
	seen   uint64 // what the weak word showed at first
}

func newGetting(sh api.Shape, hand, at, phase, colour int) turn.Task {
	k := &getting{sh: sh, at: at, phase: phase, colour: heap.LastBit(colour)}
	k.Begin(hand, k.look)
	return k
}

func (k *getting) look(m *cells.Mem) (api.Step, int) {
	s := k.Load(m, k.at)
	k.seen = s.Had
	return s, k.goByPhase()
}

// goByPhase: a weak word doesn't hold its object, so while the collector finds out what is dead, it may take the object for that.
// In the other phases what stands there is alive.
func (k *getting) goByPhase() int {
	if k.seen == 0 {
		return k.tell()
	}
	switch k.phase {
	case api.Arm, api.Mark:
		return k.GoAlong(shade.Mark(k.sh, k.Hand(), k.seen, k.colour), k.shaded)
	case api.Close:
		return k.GoOn(k.judge)
	}
	return k.tell()
}

// shaded: whoever has turned its colour, the object is white no more.
func (k *getting) shaded(api.Answer) int { return k.tell() }

// judge: in Close nobody knows yet whether a white object is dead.
func (k *getting) judge(m *cells.Mem) (api.Step, int) {
	s := k.Load(m, heap.HeadAt(k.sh, word.Index(k.seen)))
	if word.White(s.Had, word.Gen(k.seen), k.colour) {
		return s, k.RefuseWith(lookAgain)
	}
	return s, k.GoOn(k.lookTwice)
}

// lookTwice: between the two looks the collector may have wiped the weak word, and then turned the object's colour for a
// finalizer that reaches it.
func (k *getting) lookTwice(m *cells.Mem) (api.Step, int) {
	s := k.Load(m, k.at)
	if s.Had != k.seen {
		return s, k.RefuseWith(lookAgain)
	}
	return s, k.tell()
}

func (k *getting) tell() int { return k.End(k.seen) }
