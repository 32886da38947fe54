package mark

import (
	"midden/api"
	"midden/cells"
	"midden/heap"
	"midden/shade"
	"midden/turn"
	"midden/word"
)

// A scanning is a Scan under way.
type scanning struct {
	heap.Work
	sh          api.Shape
	colour      int
	owner, root int    // which root is looked at
	index       int    // of the queue's object
	along       int    // how many objects of the queue it has gone along
	shaded      uint64 // how many Marks were OK
}

func newScanning(sh api.Shape, hand, colour int) turn.Task {
	k := &scanning{sh: sh, colour: colour}
	k.Begin(hand, k.lookAtRoot)
	return k
}

func (k *scanning) lookAtRoot(m *cells.Mem) (api.Step, int) {
	s := k.Load(m, heap.RootAt(k.sh, k.owner, k.root))
	if !heap.IsNumber(k.sh, word.Index(s.Had)) {
		return s, k.goToNextRoot()
	}
	return s, k.shade(s.Had, k.goToNextRoot)
}

func (k *scanning) goToNextRoot() int {
	k.root++
	if k.root >= k.sh.Roots {
		k.owner, k.root = k.owner+1, 0
	}
	if k.owner >= k.sh.Hands {
		return k.GoOn(k.lookAtQueue)
	}
	return k.GoOn(k.lookAtRoot)
}

func (k *scanning) lookAtQueue(m *cells.Mem) (api.Step, int) {
	s := k.Load(m, api.Queue)
	return s, k.goAlongQueue(word.Index(s.Had))
}

// goAlongQueue: a queue that is none may lead round and round, so it is left behind as many objects as there are.
func (k *scanning) goAlongQueue(index int) int {
	if !heap.IsNumber(k.sh, index) || k.along >= k.sh.Objects {
		return k.End(k.shaded)
	}
	k.index = index
	k.along++
	return k.GoOn(k.lookAtQueued)
}

// lookAtQueued: the queue holds numbers, and the generation that makes a handle of one stands in the head alone.
func (k *scanning) lookAtQueued(m *cells.Mem) (api.Step, int) {
	s := k.Load(m, heap.HeadAt(k.sh, k.index))
	return s, k.shade(word.Handle(k.index, word.Gen(s.Had)), k.goOnWithNext)
}

func (k *scanning) goOnWithNext() int { return k.GoOn(k.lookAtNext) }

func (k *scanning) lookAtNext(m *cells.Mem) (api.Step, int) {
	s := k.Load(m, heap.NextAt(k.sh, k.index))
	return s, k.goAlongQueue(word.Index(s.Had))
}

func (k *scanning) shade(h uint64, behind func() int) int {
	return k.GoAlong(shade.Mark(k.sh, k.Hand(), h, k.colour), func(told api.Answer) int {
		if told.OK {
			k.shaded++
		}
		return behind()
	})
}

// A resting is a Rest under way.
type resting struct {
	heap.Work
	sh          api.Shape
	colour      int
	index, slot int    // which slot is looked at
	pulled      uint64 // how many objects were
}

func newResting(sh api.Shape, hand, colour int) turn.Task {
	k := &resting{sh: sh, colour: colour}
	k.BeginAlong(hand, shade.Pull(sh, hand), k.goByPulled)
	return k
}

func (k *resting) goByPulled(told api.Answer) int {
	if !told.OK {
		return k.End(k.pulled)
	}
	k.pulled++
	k.index = int(told.Val)
	return k.goToSlot(0)
}

func (k *resting) goToSlot(slot int) int {
	if slot >= k.sh.Slots {
		return k.GoAlong(shade.Pull(k.sh, k.Hand()), k.goByPulled)
	}
	k.slot = slot
	return k.GoOn(k.lookAtSlot)
}

func (k *resting) lookAtSlot(m *cells.Mem) (api.Step, int) {
	s := k.Load(m, heap.SlotAt(k.sh, k.index, k.slot))
	if !heap.IsNumber(k.sh, word.Index(s.Had)) {
		return s, k.goToSlot(k.slot + 1)
	}
	return s, k.GoAlong(shade.Mark(k.sh, k.Hand(), s.Had, k.colour), k.leaveSlot)
}

// leaveSlot: whoever has turned the colour of what the slot shows, it is on the list, or was, or will be put there by that one.
func (k *resting) leaveSlot(api.Answer) int { return k.goToSlot(k.slot + 1) }
