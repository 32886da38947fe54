package hue_test

import (
	"slices"
	"testing"

	"midden/api"
	"midden/cells"
	"midden/graph"
	"midden/hue"
	"midden/shape"
	"midden/trial"
	"midden/turn"
	"midden/view"
	"midden/word"
)

// Memories that runs of the layers below leave, as they are seen. Beside the jobs of trial's heap there are those by which it is
// marked, by plain acts and without a barrier.
const (
	turnColour = 101 // the phase word becomes Mark, with the other colour
	shadeRoot  = 102 // A: the hand, B: its root
	shadeQueue = 103 // the objects along the queue
	lookAtOne  = 104 // one is pulled off the grey list, and its slots are shaded
)

func marking() trial.Layer {
	return trial.Layer{Table: func(sh api.Shape, hand int, j api.Job, act trial.Act) api.Answer {
		switch j.Kind {
		case turnColour:
			_, colour, round := word.Parts(act.Load(api.Phase))
			now, _ := word.Moment(api.Mark, 1-colour, round+1)
			act.Store(api.Phase, now)
		case shadeRoot:
			at, _ := shape.Root(sh, j.A, j.B)
			shading(sh, act.Load(at), act)
		case shadeQueue:
			shadingQueue(sh, act)
		case lookAtOne:
			lookingAt(sh, act)
		default:
			return trial.Heap().Table(sh, hand, j, act)
		}
		return trial.Told(0)
	}}
}

func shading(sh api.Shape, h uint64, act trial.Act) {
	_, colour, _ := word.Parts(act.Load(api.Phase))
	trial.Marking(sh, h, colour, act)
}

func shadingQueue(sh api.Shape, act trial.Act) {
	for index := word.Index(act.Load(api.Queue)); index != 0; {
		at, _ := shape.Object(sh, index)
		shading(sh, word.Handle(index, word.Gen(act.Load(at))), act)
		index = word.Index(act.Load(at + 2))
	}
}

func lookingAt(sh api.Shape, act trial.Act) {
	pulled := trial.Pulling(sh, act)
	if !pulled.OK {
		return
	}
	for slot := range sh.Slots {
		at, _ := shape.Slot(sh, int(pulled.Val), slot)
		shading(sh, act.Load(at), act)
	}
}

// play: the run by the schedule to its end.
func play(t *testing.T, sh api.Shape, words []uint64, hands [][]api.Job, schedule []int) api.Trace {
	t.Helper()
	x, _, e := marking().Model(sh, words, hands, schedule, api.MaxSteps)
	if e != api.OK || !x.Ended {
		t.Fatalf("%+v, %v: %v, ended %v", sh, hands, e, x.Ended)
	}
	return x
}

func alone(t *testing.T, sh api.Shape, words []uint64, jobs ...api.Job) api.Trace {
	t.Helper()
	return play(t, sh, words, [][]api.Job{jobs}, nil)
}

// behindEach calls hold with the view behind each number of the run's steps, from none on.
func behindEach(t *testing.T, sh api.Shape, words []uint64, x api.Trace, hold func(n int, v api.View)) {
	t.Helper()
	for n := range len(x.Steps) + 1 {
		behind, e := view.Replay(words, x.Steps, n)
		if e != api.OK {
			t.Fatal(e)
		}
		hold(n, trial.LookAt(t, sh, behind))
	}
}

// The chapter's first example, made by a hand: while the heap is marked, 2 is put into 1, which was looked at, and then out of 3,
// which waits; and the mark goes on as if nothing had been.
func TestP15_1_ARunByHand(t *testing.T) {
	sh := api.Shape{Objects: 3, Slots: 1, Hands: 1, Roots: 3}
	words, _ := shape.Fresh(sh)
	x := alone(t, sh, words, api.Job{Kind: api.New, A: 0}, api.Job{Kind: api.New, A: 1}, api.Job{Kind: api.New, A: 2}, api.Job{Kind: api.Put, A: 2, C: 1})
	v := trial.LookAt(t, sh, x.Words)
	holdSorts(t, "made", v, nil, nil, nil, []int{1, 2, 3})
	x = alone(t, sh, x.Words, api.Job{Kind: turnColour})
	v = trial.LookAt(t, sh, x.Words)
	holdSorts(t, "the colour is turned", v, nil, []int{1, 2, 3}, nil, nil)
	x = alone(t, sh, x.Words, api.Job{Kind: shadeRoot, B: 0}, api.Job{Kind: lookAtOne}, api.Job{Kind: shadeRoot, B: 2})
	v = trial.LookAt(t, sh, x.Words)
	holdSorts(t, "1 was looked at", v, nil, []int{2}, []int{3}, []int{1})
	holdLaws(t, "1 was looked at", v, nil, 0, 0)
	x = alone(t, sh, x.Words, api.Job{Kind: api.Put, A: 0, C: 1}, api.Job{Kind: api.Drop, A: 1})
	v = trial.LookAt(t, sh, x.Words)
	holdLaws(t, "1 shows 2, and 3 does", v, nil, 1, 0)
	x = alone(t, sh, x.Words, api.Job{Kind: api.Put, A: 2, C: 2})
	v = trial.LookAt(t, sh, x.Words)
	holdLaws(t, "without 3's slot", v, nil, 1, 2)
	x = alone(t, sh, x.Words, api.Job{Kind: lookAtOne}, api.Job{Kind: lookAtOne})
	v = trial.LookAt(t, sh, x.Words)
	holdSorts(t, "at the end", v, nil, []int{2}, nil, []int{1, 3})
	if !graph.Live(v)[1] {
		t.Error("2 is live and taken for dead:", graph.Live(v))
	}
	holdSafe(t, "at the end", v, 0, api.OK)
	x = alone(t, sh, x.Words, api.Job{Kind: turnColour})
	words = slices.Clone(x.Words)
	at, _ := shape.Object(sh, 2)
	words[at] = word.Handle(0, 1) // given back, in spite of all
	holdSafe(t, "2 is given back", trial.LookAt(t, sh, words), 2, api.ErrWhite)
}

// markingJobs: first the colour is turned, and then all comes in any order.
func markingJobs(from *trial.Source, sh api.Shape, most int) []api.Job {
	jobs := []api.Job{{Kind: turnColour}}
	for range from.Below(most) {
		kind := []int{shadeRoot, shadeRoot, lookAtOne, lookAtOne, lookAtOne, shadeQueue}[from.Below(6)]
		if from.Below(20) == 0 {
			kind = turnColour
		}
		jobs = append(jobs, api.Job{Kind: kind, A: from.Below(sh.Hands), B: from.Below(sh.Roots)})
	}
	return jobs
}

// Hands that make objects, let them show one another, drop and mark them, all at one time: behind each step of each run.
func TestP15_1_MemoriesOfRuns(t *testing.T) {
	from := trial.Source(21)
	counts := map[string]int{}
	for range 1400 {
		sh := api.Shape{Objects: 4 + from.Below(9), Slots: 1 + from.Below(3), Hands: 1 + from.Below(2), Roots: 2 + from.Below(3)}
		words := from.Older(sh)
		if from.Below(8) > 0 {
			words = play(t, sh, words, from.HeapJobs(sh, 60), from.Schedule(100)).Words
		}
		hands := from.HeapJobs(sh, 12)
		if from.Below(2) == 0 {
			hands = from.Jobs(sh.Hands, 20, func() api.Job {
				return api.Job{Kind: api.Put, A: from.Below(sh.Roots), B: from.Below(sh.Slots), C: from.Below(sh.Roots)}
			})
		}
		hands = append(hands, markingJobs(&from, sh, 30))
		x := play(t, sh, words, hands, from.Schedule(150))
		behindEach(t, sh, words, x, func(_ int, v api.View) {
			busy := from.Numbers(sh.Objects)
			holdView(t, v, busy)
			a := answersOf(v, busy)
			counts["white"] += len(a.white)
			counts["grey"] += len(a.grey)
			counts["black"] += len(a.black)
			switch {
			case a.weak.errno != api.OK:
				counts["neither"]++
			case a.strong.errno != api.OK:
				counts["Weak alone"]++
			case len(a.white) > 0 && len(a.black) > 0:
				counts["both"]++
			}
			if a.safe.errno != api.OK {
				t.Fatalf("nothing is given back, and yet not safe: %+v: %+v", v, a.safe)
			}
			holdPurpose(t, seen{v, busy})
		})
	}
	for _, kind := range []string{"white", "grey", "black", "neither", "Weak alone", "both"} {
		if counts[kind] < 100 {
			t.Errorf("%s: %d", kind, counts[kind])
		}
	}
}

// A held tells, step by step, which objects a hand that marks alone has in its hands: the one whose colour it has turned and
// which isn't on the list yet, and the one that it has pulled off the list last.
type held struct{ turned, pulled int }

func (h *held) step(sh api.Shape, s api.Step) {
	if s.Act != api.CAS || !s.OK {
		return
	}
	for index := 1; index <= sh.Objects; index++ {
		if at, _ := shape.Object(sh, index); at == s.At {
			h.turned = index
		}
	}
	if s.At == api.Grey && h.turned == 0 {
		h.pulled = word.Index(s.Had)
	}
	if s.At == api.Grey {
		h.turned = 0
	}
}

// A heap at rest is marked by one hand: Strong and Weak are OK behind each step, and in the end white is just what is dead.
func TestP15_3_AHeapIsMarked(t *testing.T) {
	from := trial.Source(22)
	dead, live := 0, 0
	for range 150 {
		sh := api.Shape{Objects: 2 + from.Below(11), Slots: 1 + from.Below(3), Hands: 1 + from.Below(2), Roots: 1 + from.Below(3)}
		words := play(t, sh, from.Older(sh), from.HeapJobs(sh, 40), from.Schedule(100)).Words
		jobs := []api.Job{{Kind: turnColour}}
		for hand := range sh.Hands {
			for root := range sh.Roots {
				jobs = append(jobs, api.Job{Kind: shadeRoot, A: hand, B: root})
			}
		}
		jobs = append(jobs, api.Job{Kind: shadeQueue})
		jobs = append(jobs, slices.Repeat([]api.Job{{Kind: lookAtOne}}, sh.Objects)...)
		x := alone(t, sh, words, jobs...)
		var h held
		behindEach(t, sh, words, x, func(n int, v api.View) {
			if n > 0 {
				h.step(sh, x.Steps[n-1])
			}
			busy := []int{h.turned, h.pulled}
			holdView(t, v, busy)
			holdLaws(t, "while it is marked", v, busy, 0, 0)
			holdSafe(t, "while it is marked", v, 0, api.OK)
		})
		v := trial.LookAt(t, sh, x.Words)
		holdLaws(t, "in the end", v, nil, 0, 0)
		w, g, b := hue.Sorts(v, nil)
		if len(g) > 0 || startsWhite(v) || !slices.Equal(w, graph.Dead(v)) {
			t.Fatalf("%+v: %v, %v, %v; dead are %v", v, w, g, b, graph.Dead(v))
		}
		holdPurpose(t, seen{v: v})
		dead, live = dead+len(w), live+len(b)
	}
	if min(dead, live) < 100 {
		t.Errorf("dead %d, live %d", dead, live)
	}
}

// Acts of any kind at any word, by a schedule and as a script.
func TestP15_1_MemoriesOfActs(t *testing.T) {
	from := trial.Source(23)
	told := map[api.Errno]int{}
	for range 600 {
		sh := from.Shape()
		words := from.Older(sh)
		objects := trial.LookAt(t, sh, words).Objects
		for at := range words {
			if from.Below(2) == 0 {
				words[at] |= from.Handle(objects)
			}
		}
		hands := from.Jobs(3, 20, func() api.Job {
			return api.Job{Kind: api.Load + from.Below(5), A: from.Below(len(words)), B: from.Below(2), H: from.Handle(objects)}
		})
		x, _, e := turn.Acts(words, hands, from.Schedule(20), 100)
		if e != api.OK {
			t.Fatal(e)
		}
		_, scripted, e := cells.Script(words, x.Steps)
		if e != api.OK {
			t.Fatal(e)
		}
		for _, behind := range [][]uint64{words, x.Words, scripted} {
			v := trial.LookAt(t, sh, behind)
			holdView(t, v, from.Numbers(sh.Objects))
			_, e := hue.Safe(v)
			told[e]++
		}
	}
	if min(told[api.OK], told[api.ErrWhite]) < 20 {
		t.Errorf("Safe: %v", told)
	}
}

// Fresh memories: nothing is in use.
func TestP15_1_FreshMemories(t *testing.T) {
	for _, sh := range trial.RightShapes() {
		words, _ := shape.Fresh(sh)
		v := trial.LookAt(t, sh, words)
		holdSorts(t, "fresh", v, []int{1}, nil, nil, nil)
		holdLaws(t, "fresh", v, []int{1}, 0, 0)
		holdSafe(t, "fresh", v, 0, api.OK)
	}
}
