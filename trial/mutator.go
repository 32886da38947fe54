package trial

import (
	"math"

	"midden/api"
)

// A mutating is a hand's job as plain code.
type mutating struct {
	api.Job
	sh     api.Shape
	hand   int
	act    Act
	last   uint64 // what the hand has told last
	moment uint64 // by which the job goes
}

// Mutating: the table of layer 23 as plain code, for its own tests and for those of the layers that have its steps among theirs. last
// is what the hand has told last, from job to job; it is written behind the job's last step alone, for the code goes from its beginning
// on with each step.
func Mutating(sh api.Shape, hand int, j api.Job, last *uint64, act Act) api.Answer {
	k := &mutating{Job: j, sh: sh, hand: hand, act: act, last: *last}
	k.begin()
	told := k.goOn()
	*last = k.last
	return told
}

// ByeOf: the table Bye.
func ByeOf(sh api.Shape, hand int, act Act) api.Answer {
	act.Store(AckAt(sh, hand), math.MaxUint64)
	return Told(0)
}

func (k *mutating) begin() {
	k.moment = k.act.Load(api.Phase)
	if k.moment != k.last || k.last == math.MaxUint64 {
		k.act.Store(AckAt(k.sh, k.hand), k.moment)
		k.last = k.moment
	}
}

func (k *mutating) goOn() api.Answer {
	switch k.Kind {
	case api.New:
		return k.keepTold(k.A, Making(k.sh, k.B == 1, k.colour(), k.act))
	case api.Get:
		return k.get()
	case api.Put:
		return k.put()
	case api.Copy:
		return k.keep(k.C, k.loadRoot(k.A))
	case api.Drop:
		return k.keep(k.A, 0)
	case api.MakeWeak:
		return Setting(k.sh, k.B, k.loadRoot(k.A), k.act)
	case api.GetWeak:
		return k.see()
	case api.Take:
		return k.keepTold(k.C, Taking(k.sh, k.act))
	}
	return Told(k.moment)
}

func (k *mutating) phase() int       { return int(k.moment % 8) }
func (k *mutating) colour() int      { return int(k.moment / 8 % 2) }
func (k *mutating) hasBarrier() bool { return k.phase() >= api.Arm && k.phase() <= api.Close }

func (k *mutating) loadRoot(root int) uint64 { return k.act.Load(RootAt(k.sh, k.hand, root)) }

// keep: a handle goes into a root.
func (k *mutating) keep(root int, h uint64) api.Answer {
	Storing(k.sh, RootAt(k.sh, k.hand, root), h, k.hasBarrier(), k.colour(), k.act)
	return Told(h)
}

func (k *mutating) keepTold(root int, told api.Answer) api.Answer {
	if !told.OK {
		return api.Answer{}
	}
	return k.keep(root, told.Val)
}

// object: the number of the object in root A; 0, if it isn't there.
func (k *mutating) object() int {
	h := k.loadRoot(k.A)
	number := Number(h)
	if number < 1 || number > k.sh.Objects {
		return 0
	}
	if head := k.act.Load(HeadAt(k.sh, number)); head%2 == 0 || Upper(head) != Upper(h) {
		return 0
	}
	return number
}

func (k *mutating) get() api.Answer {
	number := k.object()
	if number == 0 {
		return api.Answer{}
	}
	return k.keep(k.C, k.act.Load(SlotAt(k.sh, number, k.B)))
}

func (k *mutating) put() api.Answer {
	number, h := k.object(), uint64(0)
	if number == 0 {
		return api.Answer{}
	}
	if k.C != -1 {
		h = k.loadRoot(k.C)
	}
	Storing(k.sh, SlotAt(k.sh, number, k.B), h, k.hasBarrier(), k.colour(), k.act)
	return Told(h)
}

func (k *mutating) see() api.Answer {
	for {
		told := Getting(k.sh, k.B, k.phase(), k.colour(), k.act)
		switch {
		case told.OK && told.Val == 0:
			return api.Answer{}
		case told.OK:
			return k.keep(k.C, told.Val)
		}
		k.begin()
	}
}
