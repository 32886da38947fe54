package mark_test

import (
	"slices"
	"testing"

	"midden/api"
	"midden/mark"
	"midden/trial"
)

func fineJobs() []api.Job { return []api.Job{roots(0), roots(1), drain(0), drain(1)} }

// wrongJobs: both kinds with a colour that is none.
func wrongJobs() []api.Job {
	var out []api.Job
	for _, colour := range trial.NoColours() {
		out = append(out, roots(colour), drain(colour))
	}
	return out
}

func TestP20_1_ErrorsInOrder(t *testing.T) {
	for _, sh := range trial.RightShapes() {
		for _, fine := range fineJobs() {
			f := trial.HeapFaults(sh, fine, mark.Drain)
			for _, j := range wrongJobs() {
				f.Wrong = append(f.Wrong, trial.Wrong{Job: j, Errno: api.ErrArg})
			}
			marks.HoldRefusals(t, f)
		}
	}
}

// Each wrong field alone, of each hand, whether the shape has it or not; what is just in range is taken.
func TestP20_1_WrongFields(t *testing.T) {
	for _, sh := range trial.RightShapes() {
		words := trial.Memory(sh, api.Grey, 0)
		for hand := range api.MaxHands {
			hands := make([][]api.Job, hand+1)
			for _, j := range wrongJobs() {
				hands[hand] = []api.Job{j}
				if !marks.IsRefused(sh, words, hands, 9, api.ErrArg) || !marks.IsRefused(sh, words, hands, 0, api.ErrArg) {
					t.Error(sh, hand, j)
				}
			}
			hands[hand] = fineJobs()
			if x, a := play(t, sh, words, hands, nil, 500); !x.Ended || len(a[hand]) != 4 {
				t.Error(sh, hand, x, a)
			}
		}
	}
}

// Of the shape, of the words, of limits and of most errors come ahead of a job's; a job's is that of the first one, hand by hand and
// job by job; and of one job ErrKind is ahead of ErrArg.
func TestP20_1_WhatComesFirst(t *testing.T) {
	odd := api.Job{Kind: 3, A: -1, B: 3, C: 5}
	fine, wrong, far := drain(1), roots(2), drain(-1)
	long := slices.Repeat([]api.Job{fine}, api.MaxJobs+1)
	words := memory(0)
	least := api.Shape{Objects: 1, Hands: 1, Roots: 1}
	for _, c := range []struct {
		name     string
		shape    api.Shape
		words    []uint64
		hands    [][]api.Job
		schedule []int
		most     int
		want     api.Errno
	}{
		{"fine", three, words, [][]api.Job{{fine, roots(0)}, {roots(1), drain(0)}, {fine}}, nil, 9, api.OK},
		{"a colour", three, words, [][]api.Job{{wrong}}, nil, 9, api.ErrArg},
		{"a colour, and no steps", three, words, [][]api.Job{{wrong}}, nil, 0, api.ErrArg},
		{"a colour below 0", three, words, [][]api.Job{{far}}, nil, 9, api.ErrArg},
		{"a colour, then a kind", three, words, [][]api.Job{{wrong}, {odd}}, nil, 9, api.ErrArg},
		{"a kind, then a colour", three, words, [][]api.Job{{odd}, {far}}, nil, 9, api.ErrKind},
		{"a kind amid", three, words, [][]api.Job{{fine, odd, far}}, nil, 9, api.ErrKind},
		{"a colour amid", three, words, [][]api.Job{{fine, far, odd}}, nil, 9, api.ErrArg},
		{"a kind of 0", three, words, [][]api.Job{{{}}, {far}}, nil, 9, api.ErrKind},
		{"the last hand's last job", three, words, [][]api.Job{nil, {}, nil, nil, nil, nil, {fine}, {fine, wrong}}, nil, 9, api.ErrArg},
		{"as many jobs as may be", three, words, [][]api.Job{nil, long[1:]}, nil, 9, api.OK},
		{"most below 0", three, words, [][]api.Job{{odd}}, nil, -1, api.ErrArg},
		{"most", three, words, [][]api.Job{{wrong}}, nil, api.MaxSteps + 1, api.ErrLong},
		{"a schedule", three, words, [][]api.Job{{far}}, make([]int, api.MaxSteps+1), -1, api.ErrLong},
		{"jobs", three, words, [][]api.Job{{wrong}, long}, nil, -1, api.ErrLong},
		{"hands", three, words, append(slices.Repeat([][]api.Job{{far}}, api.MaxHands), nil), nil, -1, api.ErrLong},
		{"a word too few", three, words[1:], [][]api.Job{{wrong}, long}, nil, -1, api.ErrSize},
		{"no words", three, nil, [][]api.Job{{wrong}, long}, nil, -1, api.ErrSize},
		{"words of another shape", least, words, [][]api.Job{{wrong}}, nil, 9, api.ErrSize},
		{"as many words as no memory has", three, make([]uint64, api.MaxWords+1), [][]api.Job{{wrong}}, nil, 9, api.ErrSize},
		{"no shape", api.Shape{Room: 5}, nil, [][]api.Job{{wrong}, long}, nil, -1, api.ErrShape},
		{"a hand too many", api.Shape{Objects: 1, Hands: api.MaxHands, Roots: 1}, nil, [][]api.Job{{odd}}, nil, 9, api.ErrShape},
		{"the least shape", least, make([]uint64, 13), [][]api.Job{fineJobs()}, nil, 9, api.OK},
		{"the least shape and a colour", least, make([]uint64, 13), [][]api.Job{{fine, wrong, odd}}, nil, 9, api.ErrArg},
		{"the least shape and a kind", least, make([]uint64, 13), [][]api.Job{{fine, odd}, {wrong}}, nil, 9, api.ErrKind},
	} {
		x, a, e := mark.Play(c.shape, c.words, c.hands, c.schedule, c.most)
		if e != c.want || e != api.OK && (a != nil || x.Steps != nil || x.Words != nil || x.Ended) {
			t.Errorf("%s: %v %v %v; want %v", c.name, x, a, e, c.want)
		}
	}
}

// The fields that no kind uses are not looked at, and the shape's Room neither; of a kind that is none no field is.
func TestP20_1_FieldsNotUsed(t *testing.T) {
	words := puts(memory(0, cell{1, 0}, cell{1, 0}, cell{1, 0}), 13, 2)
	for _, n := range append(trial.Ends(), 2, 5, 64) {
		sh := three
		sh.Room = n
		x, a := play(t, sh, words, [][]api.Job{nil, {
			{Kind: mark.Roots, A: n, B: n, C: 1, H: uint64(n)},
			{Kind: mark.Drain, A: n, B: n, C: 1, H: uint64(n)},
		}}, nil, 100)
		if !x.Ended || !slices.Equal(a[1], []api.Answer{told(1), told(1)}) || len(x.Steps) != 4+5+1+3+2+1 || x.Words[19] != 3 {
			t.Error(n, x, a)
		}
		if !marks.IsRefused(sh, words, [][]api.Job{{{Kind: 3, A: n, B: n, C: n}}}, 9, api.ErrKind) {
			t.Error(n)
		}
	}
}

func TestP20_1_NothingToDo(t *testing.T) {
	from := trial.Source(21)
	for _, sh := range trial.RightShapes() {
		for _, fine := range fineJobs() {
			marks.HoldNothingPlayed(t, sh, anyWords(&from, sh), fine)
		}
	}
}

func TestP20_1_LeavesItsArguments(t *testing.T) {
	hands := [][]api.Job{{roots(1), drain(1)}, {drain(1), roots(1)}, {drain(1)}}
	words := puts(memory(tagged(3, 1), cell{1, 9}, cell{1, 9}, cell{3, 0}), 10, 1, 3, 2, 17, 2, 18, 0, 22, 3, 23, 1, 27, 0, 28, 2)
	marks.HoldMemory(t, three, words, hands, []int{1, 0, -1}, 500)
	marks.HoldMemory(t, three, words, [][]api.Job{{drain(1)}, {roots(0), drain(1)}}, []int{0}, 300)
}

// Two tasks of one job, and of one hand, stand each for itself.
func TestP20_1_TasksApart(t *testing.T) {
	words := puts(memory(0, cell{1, 9}, cell{1, 9}, cell{1, 9}), 10, 1, 13, 3, 17, 2, 18, 0, 22, 0, 23, 1, 27, 0, 28, 0)
	twice := []api.Job{roots(1), drain(1), roots(1), drain(1)}
	for schedule := range trial.Lists(2, 10) {
		x, a := play(t, three, words, [][]api.Job{twice, twice}, schedule, 300)
		if !x.Ended || a[0][0].Val+a[1][0].Val != 2 || a[0][1].Val+a[1][1].Val != 3 || a[0][2] != told(0) || a[1][3] != told(0) {
			t.Fatal(schedule, x, a)
		}
	}
	one, other := mark.Scan(three, 0, 1), mark.Rest(three, 1, 0)
	mark.Scan(three, 1, 0)
	mark.Rest(three, 0, 1)
	steps, a, after := trial.Drive(t, one, words, nil)
	if len(steps) != 4+5+5+1 || a != told(2) {
		t.Error(steps, a)
	}
	if steps, a, _ := trial.Drive(t, other, after, nil); steps[0].Hand != 1 || a.Val < 2 {
		t.Error(steps, a)
	}
}

// Nothing is kept from call to call: between calls that are refused, and calls with other shapes, each one answers the same.
func TestP20_1_NothingIsKept(t *testing.T) {
	from := trial.Source(22)
	wrong := trial.WrongShapes()
	for i := range 300 {
		sh, other := from.SmallShape(), from.SmallShape()
		words, others := anyWords(&from, sh), anyWords(&from, other)
		hands, schedule := anyJobs(&from, both, 4, 4), from.Schedule(60)
		x, a := play(t, sh, words, hands, schedule, 150)
		mark.Play(wrong[i*31%len(wrong)], words, hands, schedule, 150)
		mark.Play(sh, words[1:], hands, schedule, 150)
		mark.Play(sh, words, [][]api.Job{{roots(2)}}, schedule, 150)
		play(t, other, others, anyJobs(&from, both, 4, 4), schedule, 50)
		if y, b := play(t, sh, words, hands, schedule, 150); !trial.SameTrace(x, y) || !trial.SameAnswers(a, b) {
			t.Fatalf("%+v: %v %v; was %v %v", sh, y, b, x, a)
		}
	}
}
