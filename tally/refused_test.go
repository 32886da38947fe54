package tally_test

import (
	"math"
	"slices"
	"testing"

	"midden/api"
	"midden/tally"
)

// Each line has also the faults that are looked for behind its own.
func TestP5_1_ErrorsInOrder(t *testing.T) {
	words := func(n int) []uint64 { return make([]uint64, n) }
	kind, arg, fine := api.Job{Kind: 4, A: -1}, count(2, 1), count(1, 1)
	bad := [][]api.Job{{kind}}
	many := append(slices.Repeat([][]api.Job{{fine}}, api.MaxHands), bad...)
	long := slices.Repeat([]api.Job{kind}, api.MaxJobs+1)
	endless := make([]int, api.MaxSteps+1)
	for _, c := range []struct {
		name     string
		room     int
		words    []uint64
		hands    [][]api.Job
		schedule []int
		most     int
		want     api.Errno
	}{
		{"room 0", 0, nil, many, endless, -1, api.ErrShape},
		{"room 0 and words", 0, words(3), many, endless, -1, api.ErrShape},
		{"room below 0", -1, nil, many, nil, -1, api.ErrShape},
		{"room past the limit", api.MaxRoom + 1, words(2 * (api.MaxRoom + 1)), nil, nil, 0, api.ErrShape},
		{"no words", 2, nil, many, nil, -1, api.ErrSize},
		{"a word less", 2, words(3), many, endless, -1, api.ErrSize},
		{"a word more", 2, words(5), nil, nil, 0, api.ErrSize},
		{"the stripes alone", api.MaxRoom, words(api.MaxRoom), nil, nil, 0, api.ErrSize},
		{"words past the limit", 2, words(api.MaxWords + 1), many, nil, -1, api.ErrSize},
		{"hands", 2, words(4), many, nil, -1, api.ErrLong},
		{"hands without jobs", 2, words(4), make([][]api.Job, api.MaxHands+1), nil, 0, api.ErrLong},
		{"jobs", 2, words(4), [][]api.Job{{kind}, nil, long}, nil, -1, api.ErrLong},
		{"schedule", 2, words(4), bad, endless, -1, api.ErrLong},
		{"most", 2, words(4), bad, nil, api.MaxSteps + 1, api.ErrLong},
		{"the greatest most", 2, words(4), nil, nil, math.MaxInt, api.ErrLong},
		{"most below 0", 2, words(4), bad, nil, -1, api.ErrArg},
		{"the least most", 2, words(4), nil, nil, math.MinInt, api.ErrArg},
		{"kind 4", 2, words(4), [][]api.Job{{fine}, {kind}, {arg}}, nil, 0, api.ErrKind},
		{"kind 0", 2, words(4), [][]api.Job{{fine, {}}, {arg}}, nil, 9, api.ErrKind},
		{"a count past the end", 2, words(4), [][]api.Job{nil, {fine, arg, kind}}, nil, 9, api.ErrArg},
		{"a count below 0", 2, words(4), [][]api.Job{{count(-1, 0)}, {kind}}, nil, 0, api.ErrArg},
		{"a greatest past the end", 2, words(4), [][]api.Job{{sum, most(2, 0)}, {kind}}, nil, 9, api.ErrArg},
		{"a greatest below 0", 2, words(4), [][]api.Job{{fine}, {most(-1, 0)}, {kind}}, nil, 0, api.ErrArg},
	} {
		x, a, e := tally.Play(api.Shape{Room: c.room}, c.words, c.hands, c.schedule, c.most)
		if e != c.want || x.Steps != nil || x.Words != nil || x.Ended || a != nil {
			t.Errorf("%s: %v %v %v; want %v", c.name, x, a, e, c.want)
		}
		if slices.ContainsFunc(c.words, func(w uint64) bool { return w != 0 }) {
			t.Errorf("%s: the words have changed", c.name)
		}
		if c.want == api.ErrSize || c.schedule != nil || c.most < 0 || c.most > api.MaxSteps {
			continue // what follows is for the faults that Free has too
		}
		if w, a, e := tally.Free(api.Shape{Room: c.room}, c.hands); w != nil || a != nil || e != c.want {
			t.Errorf("free, %s: %v %v %v; want %v", c.name, w, a, e, c.want)
		}
	}
}

func TestP5_1_ErrorsInOrderFree(t *testing.T) {
	kind, fine := api.Job{Kind: -3, A: -1}, count(1, 1)
	many := append(slices.Repeat([][]api.Job{{fine}}, api.MaxHands), []api.Job{kind})
	for _, room := range noRooms {
		if w, a, e := tally.Free(api.Shape{Room: room}, many); w != nil || a != nil || e != api.ErrShape {
			t.Error(room, w, a, e)
		}
	}
	for _, hands := range [][][]api.Job{many, {{kind}, slices.Repeat([]api.Job{fine}, api.MaxJobs+1)}} {
		if w, a, e := tally.Free(api.Shape{Room: 2}, hands); w != nil || a != nil || e != api.ErrLong {
			t.Error(w, a, e)
		}
	}
}

// A Sum is taken, whatever its A is.
func TestP5_1_SumWithAnyA(t *testing.T) {
	for _, a := range append([]int{0, 1, 2, 64, 1 << 32}, ends[:]...) {
		j := api.Job{Kind: tally.Sum, A: a, B: a, C: a, H: uint64(a)}
		x, told, e := tally.Play(api.Shape{Room: 2}, []uint64{3, 4, 9, 9}, [][]api.Job{{j}}, nil, 9)
		want := api.Trace{Steps: []api.Step{load(0, 0, 3), load(0, 1, 4)}, Words: []uint64{3, 4, 9, 9}, Ended: true}
		if e != api.OK || !sameTrace(x, want) || !sameAnswers(told, [][]api.Answer{{{OK: true, Val: 7}}}) {
			t.Error(a, x, told, e)
		}
	}
}

// What is handed in stays as it is, its spare room included, and what is answered is new each time.
func TestP5_1_LeavesItsArguments(t *testing.T) {
	words := []uint64{1, 2, 3, 4, 77, 78}
	schedule := []int{1, 0, -1, 7, 9}
	jobs := []api.Job{count(0, 5), most(1, 9), {Kind: -1}, {Kind: -2}}
	hands := [][]api.Job{jobs[:2], jobs[1:2], {{Kind: -1}}}
	heldWords, heldSchedule, heldJobs := slices.Clone(words), slices.Clone(schedule), slices.Clone(jobs)
	play := func() (api.Trace, [][]api.Answer) {
		x, a, e := tally.Play(api.Shape{Room: 2}, words[:4], hands[:2], schedule[:2], 30)
		if e != api.OK || !x.Ended || !slices.Equal(x.Words, []uint64{6, 2, 3, 9}) {
			t.Fatal(x, a, e)
		}
		return x, a
	}
	x, a := play()
	w, b, e := tally.Free(api.Shape{Room: 2}, hands[:2])
	if e != api.OK || !slices.Equal(w, []uint64{5, 0, 0, 9}) {
		t.Fatal(w, b, e)
	}
	for _, list := range [][]uint64{x.Words, w} {
		list[0] = 55
		_ = append(list, 56)
	}
	x.Steps[0] = api.Step{}
	for _, told := range [][][]api.Answer{a, b} {
		held := slices.Clone(told[1])
		told[0][0] = api.Answer{Val: 99}
		_ = append(told[0], api.Answer{Val: 98}, api.Answer{Val: 97})
		if !slices.Equal(told[1], held) {
			t.Error("the hands' answers share memory", told, held)
		}
	}
	if !slices.Equal(words, heldWords) || !slices.Equal(schedule, heldSchedule) || !slices.Equal(jobs, heldJobs) || hands[2][0].Kind != -1 {
		t.Error(words, schedule, jobs, hands)
	}
	if y, c := play(); y.Steps[0].Act == 0 || c[0][0].Val == 99 {
		t.Error("something was kept", y, c)
	}
}

// Two tasks of one job stand each for itself.
func TestP5_1_TasksApart(t *testing.T) {
	job := most(0, 6)
	hands := [][]api.Job{{job, job}, {job, job}}
	x, a := holdRun(t, []uint64{0, 5}, hands, nil, 20)
	if len(x.Steps) != 7 || !x.Ended || !sameAnswers(a, [][]api.Answer{{told(6), met(6)}, {met(6), met(6)}}) {
		t.Error(x, a)
	}
}
