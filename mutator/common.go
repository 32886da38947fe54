package mutator

import (
	"midden/api"
	"midden/cells"
	"midden/heap"
	"midden/store"
	"midden/turn"
	"midden/word"
)

// A job is a task with a part of its own: how it goes on behind the beginning that all of them have.
type job interface {
	turn.Task
	onward() int
}

// A common is what all jobs have in common, to be embedded in each: what was asked for, the beginning, and the phase by which the job
// goes from there on.
type common struct {
	heap.Work
	sh     api.Shape
	asked  api.Job
	last   *uint64 // the phase word that the hand has told last
	own    job
	moment uint64 // the phase word, as this job has loaded it last
}

// newJob: last is written by the job while it is under way, for the hand's next job goes by it.
func newJob(sh api.Shape, hand int, j api.Job, last *uint64) turn.Task {
	k := &common{sh: sh, asked: j, last: last}
	k.own = ownOf(k)
	k.Begin(hand, k.look)
	return k.own
}

func ownOf(k *common) job {
	switch k.asked.Kind {
	case api.New:
		return &making{k}
	case api.Get:
		return &getting{reaching{common: k}}
	case api.Put:
		return &putting{reaching{common: k}}
	case api.Copy:
		return &copying{k}
	case api.Drop:
		return &dropping{k}
	case api.MakeWeak:
		return &showing{k}
	case api.GetWeak:
		return &seeing{k}
	case api.Take:
		return &taking{k}
	}
	return &polling{k}
}

// look: a hand that has told nothing yet tells its first phase in any case, for its ack may hold anything.
func (k *common) look(m *cells.Mem) (api.Step, int) {
	s := k.Load(m, api.Phase)
	k.moment = s.Had
	if k.moment == *k.last && *k.last != toldNothing {
		return s, k.own.onward()
	}
	return s, k.GoOn(k.tell)
}

func (k *common) tell(m *cells.Mem) (api.Step, int) {
	s := k.Store(m, heap.AckAt(k.sh, k.Hand()), k.moment)
	*k.last = k.moment
	return s, k.own.onward()
}

func (k *common) phase() int {
	phase, _, _ := word.Parts(k.moment)
	return phase
}

func (k *common) colour() int {
	_, colour, _ := word.Parts(k.moment)
	return colour
}

// hasBarrier: the collector may be looking for what is live.
func (k *common) hasBarrier() bool {
	phase := k.phase()
	return phase == api.Arm || phase == api.Mark || phase == api.Close
}

func (k *common) loadRoot(m *cells.Mem, root int) api.Step {
	return k.Load(m, heap.RootAt(k.sh, k.Hand(), root))
}

// keep: a handle goes into a root, and the job tells it.
func (k *common) keep(root int, h uint64) int {
	return k.endAlong(store.Root(k.sh, k.Hand(), root, h, k.hasBarrier(), k.colour()), h)
}

// keepTold: what a part of the job has told goes into a root; where it has told none, the job has none to tell.
func (k *common) keepTold(root int) heap.Behind {
	return func(told api.Answer) int {
		if !told.OK {
			return k.Refuse()
		}
		return k.keep(root, told.Val)
	}
}

// endAlong: the job ends with another task's last step, and tells v, whatever that one told.
func (k *common) endAlong(part turn.Task, v uint64) int {
	return k.GoAlong(part, func(api.Answer) int { return k.End(v) })
}
