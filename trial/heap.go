package trial

import (
	"midden/api"
	"midden/cells"
	"midden/shape"
	"midden/turn"
	"midden/view"
	"midden/word"
)

// The bits of an object's head that are set by hand.
const (
	finalBit = 4
	takenBit = 8
)

// Heap: hands that make objects, let them show one another, and drop them, by plain acts: heaps as the layers above will leave
// them, and all that stands there on the way. It has a table alone. Its jobs are New, Put and Drop, as a hand's; but a Drop
// whose B is 1 puts the object on the queue first.
func Heap() Layer {
	return Layer{Table: func(sh api.Shape, hand int, j api.Job, act Act) api.Answer {
		switch j.Kind {
		case api.New:
			return making(sh, hand, j, act)
		case api.Put:
			return putting(sh, hand, j, act)
		default:
			return dropping(sh, hand, j, act)
		}
	}}
}

func making(sh api.Shape, hand int, j api.Job, act Act) api.Answer {
	told := Making(sh, j.B == 1, 0, act)
	if !told.OK {
		return told
	}
	root, _ := shape.Root(sh, hand, j.A)
	act.Store(root, told.Val)
	return Told(uint64(Number(told.Val)))
}

func putting(sh api.Shape, hand int, j api.Job, act Act) api.Answer {
	root, _ := shape.Root(sh, hand, j.A)
	at, e := shape.Slot(sh, word.Index(act.Load(root)), j.B)
	if e != api.OK {
		return api.Answer{}
	}
	from, _ := shape.Root(sh, hand, j.C)
	h := act.Load(from)
	act.Store(at, h)
	return Told(h)
}

func dropping(sh api.Shape, hand int, j api.Job, act Act) api.Answer {
	root, _ := shape.Root(sh, hand, j.A)
	h := act.Load(root)
	at, e := shape.Object(sh, word.Index(h))
	if e == api.OK && j.B == 1 {
		queueing(at, word.Index(h), act)
	}
	act.Store(root, 0)
	return Told(h)
}

// queueing: an object that is queued once is not queued again.
func queueing(at, index int, act Act) {
	head := act.Load(at)
	if head&takenBit != 0 || !act.CAS(at, head, head|finalBit|takenBit) {
		return
	}
	puttingOn(api.Queue, at+2, index, act)
}

// HeapJobs: for each of the shape's hands, up to most.
func (s *Source) HeapJobs(sh api.Shape, most int) [][]api.Job {
	return s.Jobs(sh.Hands, most, func() api.Job {
		j := api.Job{Kind: api.New, A: s.Below(sh.Roots), B: s.Below(2)}
		switch s.Below(6) {
		case 0:
			j.Kind = api.Drop
		case 1, 2, 3:
			j = api.Job{Kind: api.Put, A: s.Below(sh.Roots), B: s.Below(max(sh.Slots, 1)), C: s.Below(sh.Roots)}
		}
		return j
	})
}

// Older: fresh words of a right shape, whose objects have generations of their own.
func (s *Source) Older(sh api.Shape) []uint64 {
	words, _ := shape.Fresh(sh)
	for index := 1; index <= sh.Objects; index++ {
		at, _ := shape.Object(sh, index)
		words[at] = []uint64{0, 1, half - 1}[s.Below(3)] * half
	}
	return words
}

// Ran: a memory that a run of hands on a heap has left; most often to its end.
func (s *Source) Ran(sh api.Shape) []uint64 {
	most := api.MaxSteps
	if s.Below(3) == 0 {
		most = s.Below(150)
	}
	x, _, _ := Heap().Model(sh, s.Older(sh), s.HeapJobs(sh, 30), s.Schedule(100), most)
	return x.Words
}

// Acted: the words behind acts of any kind at any of them, by a schedule and as a script.
func (s *Source) Acted(sh api.Shape, words []uint64) []uint64 {
	hands := s.Jobs(3, 20, func() api.Job {
		return api.Job{Kind: api.Load + s.Below(5), A: s.Below(len(words)), B: s.Below(2), H: s.Near(sh.Objects)}
	})
	x, _, _ := turn.Acts(words, hands, s.Schedule(20), 100)
	_, after, _ := cells.Script(x.Words, x.Steps)
	return after
}

// LookAt: the view of words of this shape.
func LookAt(t T, sh api.Shape, words []uint64) api.View {
	t.Helper()
	v, e := view.Look(sh, words)
	if e != api.OK {
		t.Fatalf("%+v, %d words: %v", sh, len(words), e)
	}
	return v
}
