package final

import (
	"midden/api"
	"midden/cells"
	"midden/heap"
	"midden/mark"
	"midden/turn"
	"midden/word"
)

// A wiping is a Wipe under way.
type wiping struct {
	heap.Work
	sh     api.Shape
	colour int
	weak   int    // which weak word is looked at
	seen   uint64 // what it showed
	wiped  uint64 // how many were
}

func newWiping(sh api.Shape, hand, colour int) turn.Task {
	k := &wiping{sh: sh, colour: heap.LastBit(colour)}
	if sh.Weaks < 1 {
		k.Begin(hand, k.pass)
	} else {
		k.Begin(hand, k.look)
	}
	return k
}

// pass: where there is nothing to wipe a task has one step all the same.
func (k *wiping) pass(m *cells.Mem) (api.Step, int) { return k.Load(m, api.Phase), k.End(0) }

func (k *wiping) look(m *cells.Mem) (api.Step, int) {
	s := k.Load(m, heap.WeakAt(k.sh, k.weak))
	k.seen = s.Had
	if !heap.IsNumber(k.sh, word.Index(k.seen)) {
		return s, k.goToNext()
	}
	return s, k.GoOn(k.judge)
}

func (k *wiping) judge(m *cells.Mem) (api.Step, int) {
	s := k.Load(m, heap.HeadAt(k.sh, word.Index(k.seen)))
	if !word.White(s.Had, word.Gen(k.seen), k.colour) {
		return s, k.goToNext()
	}
	return s, k.GoOn(k.wipe)
}

// wipe: a hand may have made the weak word show another object by now, which is left alone.
func (k *wiping) wipe(m *cells.Mem) (api.Step, int) {
	s := k.CAS(m, heap.WeakAt(k.sh, k.weak), k.seen, 0)
	if s.OK {
		k.wiped++
	}
	return s, k.goToNext()
}

func (k *wiping) goToNext() int {
	k.weak++
	if k.weak >= k.sh.Weaks {
		return k.End(k.wiped)
	}
	return k.GoOn(k.look)
}

// A gathering is a Gather under way.
type gathering struct {
	heap.Work
	sh     api.Shape
	colour int
	index  int    // which object is looked at
	seen   uint64 // its head, as it was loaded
	taken  []int
	queued int // how many of these are on the queue
}

func newGathering(sh api.Shape, hand, colour int) turn.Task {
	k := &gathering{sh: sh, colour: heap.LastBit(colour), index: 1}
	k.Begin(hand, k.look)
	return k
}

func (k *gathering) look(m *cells.Mem) (api.Step, int) {
	s := k.Load(m, heap.HeadAt(k.sh, k.index))
	k.seen = s.Had
	if !k.isDue() {
		return s, k.goToNext()
	}
	return s, k.GoOn(k.take)
}

func (k *gathering) isDue() bool {
	o, colour := word.Unpack(k.seen)
	return o.Used && colour != k.colour && o.Final && !o.Taken
}

// take: whoever sets the bit queues the object, and no other; with the colour turned, the object isn't swept.
func (k *gathering) take(m *cells.Mem) (api.Step, int) {
	s := k.CAS(m, heap.HeadAt(k.sh, k.index), k.seen, k.seen^heap.ColourBit|heap.TakenBit)
	if !s.OK {
		return s, k.goToNext()
	}
	k.taken = append(k.taken, k.index)
	return s, k.GoAlong(heap.Lay(k.sh, k.Hand(), api.Grey, k.index), k.leave)
}

func (k *gathering) leave(api.Answer) int { return k.goToNext() }

// goToNext: what the taken ones reach is shaded ahead of the queue, for as long as none of them is on it, no hand comes by it.
func (k *gathering) goToNext() int {
	if k.index >= k.sh.Objects {
		return k.GoAlong(mark.Rest(k.sh, k.Hand(), k.colour), k.goToQueue)
	}
	k.index++
	return k.GoOn(k.look)
}

func (k *gathering) goToQueue(api.Answer) int {
	if k.queued == len(k.taken) {
		return k.End(uint64(k.queued))
	}
	return k.GoAlong(heap.Lay(k.sh, k.Hand(), api.Queue, k.taken[k.queued]), k.countNext)
}

func (k *gathering) countNext(api.Answer) int { return k.GoOn(k.count) }

func (k *gathering) count(m *cells.Mem) (api.Step, int) {
	k.queued++
	return k.Add(m, api.Queued, 1), k.goToQueue(api.Answer{})
}

// A taking is a Take under way.
type taking struct {
	heap.Work
	sh    api.Shape
	index int
}

func newTaking(sh api.Shape, hand int) turn.Task {
	k := &taking{sh: sh}
	k.BeginAlong(hand, heap.Draw(sh, hand, api.Queue), k.goByDrawn)
	return k
}

func (k *taking) goByDrawn(told api.Answer) int {
	if !told.OK {
		return k.Refuse()
	}
	k.index = int(told.Val)
	return k.GoOn(k.tell)
}

// tell: the queue holds numbers, and the generation that makes a handle of one stands in the head alone.
func (k *taking) tell(m *cells.Mem) (api.Step, int) {
	s := k.Load(m, heap.HeadAt(k.sh, k.index))
	return s, k.End(word.Handle(k.index, word.Gen(s.Had)))
}
