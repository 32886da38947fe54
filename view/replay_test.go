package view_test

import (
	"math"
	"slices"
	"testing"

	"midden/api"
	"midden/bell"
	"midden/belt"
	"midden/deal"
	"midden/epoch"
	"midden/once"
	"midden/pile"
	"midden/seq"
	"midden/tally"
	"midden/trial"
	"midden/turn"
	"midden/view"
)

// holdReplay fails, if Replay doesn't answer by the chapter. It tells whether the steps fit.
func holdReplay(t *testing.T, words []uint64, steps []api.Step, n int) bool {
	t.Helper()
	got, e := view.Replay(words, steps, n)
	want, ok := replayed(words, steps, n)
	if ok && (e != api.OK || !slices.Equal(got, want)) || !ok && (e != api.ErrSound || len(got) != 0) {
		t.Fatalf("%v %+v %d: %v, %d; want %v, %v", words, steps, n, got, e, want, ok)
	}
	return ok
}

func TestP13_1_ReplayEdges(t *testing.T) {
	fits := []api.Step{{At: 1, Had: 7, Put: 7}, {At: 0, Had: 5, Put: 6}, {At: 2}, {At: -1}, {At: 0, Had: 6, Put: 0}, {At: 0, Put: math.MaxUint64}}
	for n, want := range [][]uint64{{5, 7}, {5, 7}, {6, 7}, {6, 7}, {6, 7}, {0, 7}, {math.MaxUint64, 7}} {
		if got, e := view.Replay([]uint64{5, 7}, fits, n); e != api.OK || !slices.Equal(got, want) {
			t.Errorf("%d steps: %v, %d; want %v", n, got, e, want)
		}
	}
	for _, n := range append([]int{7, 8, 1 << 32, -1 << 32, -7}, trial.Ends()...) {
		if got, e := view.Replay([]uint64{5, 7}, fits, n); e != api.ErrArg || len(got) > 0 {
			t.Errorf("%d steps: %v, %d", n, got, e)
		}
	}
	for _, s := range []api.Step{{At: 0, Had: 4, Put: 5}, {At: 0, Had: 0, Put: 5}, {At: 1, Had: 5, Put: 7}, {At: 0, Had: 5 + half, Put: 5}, {At: 1}, {At: 1, Put: 7}} {
		if holdReplay(t, []uint64{5, 7}, []api.Step{s}, 1) {
			t.Errorf("%+v fits", s)
		}
		holdReplay(t, []uint64{5, 7}, []api.Step{s}, 0)
	}
	for _, at := range append([]int{2, 3, 1 << 32, 1<<32 + 1, -1 << 32, api.MaxWords}, trial.Ends()...) {
		for _, s := range []api.Step{{At: at}, {At: at, Had: 1}, {At: at, Put: 1}, {At: at, Had: 5, Put: 5}, {At: at, Had: math.MaxUint64, Put: math.MaxUint64}} {
			if ok := holdReplay(t, []uint64{5, 7}, []api.Step{s}, 1); ok != (s.Had == 0 && s.Put == 0) {
				t.Errorf("%+v: %v", s, ok)
			}
			holdReplay(t, nil, []api.Step{s}, 1)
			holdReplay(t, nil, []api.Step{s}, 0)
		}
	}
	if got, e := view.Replay(nil, nil, 0); e != api.OK || len(got) > 0 {
		t.Errorf("nothing: %v, %d", got, e)
	}
}

// Steps behind the first n aren't looked at.
func TestP13_1_ReplayLooksNoFurther(t *testing.T) {
	steps := []api.Step{{At: 0, Had: 5, Put: 6}, {At: 0, Had: 5, Put: 9}, {At: 7, Put: 1}}
	if got, e := view.Replay([]uint64{5}, steps, 1); e != api.OK || !slices.Equal(got, []uint64{6}) {
		t.Errorf("%v, %d", got, e)
	}
	for n := 2; n <= 3; n++ {
		if got, e := view.Replay([]uint64{5}, steps, n); e != api.ErrSound || len(got) > 0 {
			t.Errorf("%d: %v, %d", n, got, e)
		}
	}
}

// Act, Hand and OK may be anything, and one that puts what no act of that kind could.
func TestP13_1_ReplayLooksAtHadAndPutAlone(t *testing.T) {
	for _, act := range append([]int{0, api.Load, api.Store, api.Swap, api.Add, api.CAS, 6, 1 << 32}, trial.Ends()...) {
		for _, hand := range append([]int{0, 7, 8, 1 << 40}, trial.Ends()...) {
			for _, ok := range []bool{true, false} {
				steps := []api.Step{{Hand: hand, Act: act, At: 1, Had: 7, Put: 3, OK: ok}, {Hand: hand, Act: act, At: 2, OK: ok}}
				if got, e := view.Replay([]uint64{5, 7}, steps, 2); e != api.OK || !slices.Equal(got, []uint64{5, 3}) {
					t.Errorf("%+v: %v, %d", steps, got, e)
				}
				steps[0].Had = 8
				if got, e := view.Replay([]uint64{5, 7}, steps, 2); e != api.ErrSound || len(got) > 0 {
					t.Errorf("%+v: %v, %d", steps, got, e)
				}
			}
		}
	}
}

func TestP13_1_ReplayLimits(t *testing.T) {
	words, steps := make([]uint64, api.MaxWords+1), make([]api.Step, api.MaxSteps+1)
	words[api.MaxWords-1] = 9
	for i := range steps {
		steps[i] = api.Step{At: api.MaxWords - 1, Had: 9 + uint64(i), Put: 10 + uint64(i)}
	}
	most, all := words[:api.MaxWords], steps[:api.MaxSteps]
	got, e := view.Replay(most, all, api.MaxSteps)
	if e != api.OK || len(got) != api.MaxWords || got[api.MaxWords-1] != 9+api.MaxSteps || got[api.MaxWords-2] != 0 {
		t.Errorf("at the limits: %d words, %d", len(got), e)
	}
	// The order of the errors: each comes ahead of all behind it.
	unfit := slices.Clone(all)
	unfit[0].Had = 1
	for _, c := range []struct {
		words []uint64
		steps []api.Step
		n     int
		want  api.Errno
	}{
		{words, nil, 0, api.ErrLong}, {words, all, 1, api.ErrLong}, {words, all, -1, api.ErrLong}, {words, unfit, 1, api.ErrLong},
		{most, steps, 0, api.ErrLong}, {most, steps, 1, api.ErrLong}, {nil, steps, 0, api.ErrLong}, {most, steps, -1, api.ErrLong},
		{most, steps, api.MaxSteps + 2, api.ErrLong}, {nil, steps, math.MinInt, api.ErrLong}, {words, steps, math.MaxInt, api.ErrLong},
		{most, unfit, -1, api.ErrArg}, {most, unfit, api.MaxSteps + 1, api.ErrArg}, {most, unfit, math.MaxInt, api.ErrArg}, {nil, nil, 1, api.ErrArg},
		{most, nil, -1, api.ErrArg}, {most, unfit, 1, api.ErrSound}, {most, unfit, api.MaxSteps, api.ErrSound}, {nil, all, 1, api.ErrSound},
		{most, unfit, 0, api.OK}, {most, all, 0, api.OK},
	} {
		got, e := view.Replay(c.words, c.steps, c.n)
		if e != c.want || e != api.OK && len(got) > 0 || e == api.OK && !slices.Equal(got, c.words) {
			t.Errorf("%d words, %d steps, %d: %d words, %d; want %d", len(c.words), len(c.steps), c.n, len(got), e, c.want)
		}
	}
}

// Steps of which each fits with great likelihood, and then one that is turned.
func TestP13_1_ReplayOfAnySteps(t *testing.T) {
	from := newSource(21)
	fit, unfit := 0, 0
	for range 20000 {
		words := make([]uint64, from.Below(4))
		for at := range words {
			words[at] = from.Value()
		}
		now, steps := slices.Clone(words), []api.Step{}
		for range from.Below(7) {
			s := api.Step{Hand: from.End(), Act: from.Below(7), At: from.Below(len(words)+2) - 1, OK: from.Below(2) == 0}
			if s.At >= 0 && s.At < len(words) {
				s.Had, s.Put = now[s.At], from.Value()
				now[s.At] = s.Put
			}
			steps = append(steps, s)
		}
		if len(steps) > 0 && from.Below(2) == 0 {
			s := &steps[from.Below(len(steps))]
			switch from.Below(3) {
			case 0:
				s.At = from.Below(6) - 2
			case 1:
				s.Had = from.Value()
			case 2:
				s.Put = from.Value()
			}
		}
		for n := range len(steps) + 1 {
			if holdReplay(t, words, steps, n) {
				fit++
			} else {
				unfit++
			}
		}
	}
	if fit < 10000 || unfit < 5000 {
		t.Errorf("%d fit, %d don't", fit, unfit)
	}
}

// holdTrace fails, if a run's steps don't lead from its words at the beginning to those at its end: all at once, and the
// first n and then the others, for each n.
func holdTrace(t *testing.T, words []uint64, x api.Trace) {
	t.Helper()
	all := len(x.Steps)
	if got, e := view.Replay(words, x.Steps, all); e != api.OK || !slices.Equal(got, x.Words) {
		t.Fatalf("%v %+v: %v, %d; want %v", words, x.Steps, got, e, x.Words)
	}
	for n := range all + 1 {
		part, e := view.Replay(words, x.Steps, n)
		if e != api.OK {
			t.Fatalf("%v %+v %d: %d", words, x.Steps, n, e)
		}
		if got, e := view.Replay(part, x.Steps[n:], all-n); e != api.OK || !slices.Equal(got, x.Words) {
			t.Fatalf("%v %+v, behind %d: %v, %d; want %v", words, x.Steps, n, got, e, x.Words)
		}
	}
	for i, s := range x.Steps {
		turned := slices.Clone(x.Steps)
		turned[i].Had++
		if got, e := view.Replay(words, turned, all); e != api.ErrSound || len(got) > 0 {
			t.Fatalf("%v %+v with another Had in step %d, %+v: %v, %d", words, x.Steps, i, s, got, e)
		}
	}
}

func TestP13_3_RunsOfActs(t *testing.T) {
	from := newSource(22)
	for range 1500 {
		words := make([]uint64, from.Below(4))
		for at := range words {
			words[at] = from.Value()
		}
		hands := from.acts(len(words), 1+from.Below(api.MaxHands), 5)
		x, _, e := turn.Acts(words, hands, from.Schedule(from.Below(30)), from.Below(50))
		if e != api.OK {
			t.Fatal(e)
		}
		holdTrace(t, words, x)
	}
}

// A run: what Play of a layer is given.
type run struct {
	name        string
	size        func(api.Shape) (int, api.Errno)
	play        func(sh api.Shape, words []uint64, hands [][]api.Job, schedule []int, most int) (api.Trace, [][]api.Answer, api.Errno)
	kinds, room int
}

// The runs of all layers that stand on turn, from words at their beginning and from any.
func TestP13_3_RunsOfTheLayers(t *testing.T) {
	from := newSource(23)
	for _, r := range []run{
		{"once", once.Size, once.Play, 2, 3}, {"tally", tally.Size, tally.Play, 4, 2}, {"pile", pile.Size, pile.Play, 2, 3}, {"belt", belt.Size, belt.Play, 2, 3},
		{"deal", deal.Size, deal.Play, 3, 3}, {"bell", bell.Size, bell.Play, 1, 2}, {"seq", seq.Size, seq.Play, 2, 3}, {"epoch", epoch.Size, epoch.Play, 4, 3},
	} {
		steps, runs := 0, 0
		for range 600 {
			sh := api.Shape{Room: 1 + from.Below(r.room)}
			size, e := r.size(sh)
			if e != api.OK {
				t.Fatal(r.name, e)
			}
			words := make([]uint64, size)
			if from.Below(3) == 0 {
				for at := range words {
					words[at] = from.Value()
				}
			}
			hands := from.Jobs(1+from.Below(3), 3, func() api.Job {
				return api.Job{Kind: 1 + from.Below(r.kinds), A: from.Below(sh.Room), B: from.Below(2), H: from.Value()}
			})
			// A job that the layer refuses (another hand's kind) makes no run.
			if x, _, e := r.play(sh, words, hands, from.Schedule(from.Below(40)), 60); e == api.OK {
				holdTrace(t, words, x)
				runs++
				steps += len(x.Steps)
			}
		}
		if runs < 100 || steps < 500 {
			t.Errorf("%s: %d runs, %d steps", r.name, runs, steps)
		}
	}
}

// A heap's runs: objects that two hands make, put into one another and drop.
func TestP13_3_RunsOnAHeap(t *testing.T) {
	from := newSource(24)
	for range 100 {
		sh := api.Shape{Objects: 1 + from.Below(4), Slots: 1, Hands: 2, Roots: 2}
		words := from.sound(sh)
		x, _, e := trial.Heap().Model(sh, words, from.HeapJobs(sh, 5), from.Schedule(30), from.Below(80))
		if e != api.OK {
			t.Fatal(e)
		}
		holdTrace(t, words, x)
	}
}
