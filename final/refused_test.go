package final_test

import (
	"slices"
	"testing"

	"midden/api"
	"midden/final"
	"midden/trial"
)

func TestP22_1_ErrorsInOrder(t *testing.T) {
	for _, sh := range trial.RightShapes() {
		for _, fine := range []api.Job{clearOf(0), callOf(1), due} {
			f := trial.HeapFaults(sh, fine, final.Due)
			for _, none := range trial.NoColours() {
				f.Wrong = append(f.Wrong, trial.Wrong{Job: clearOf(none), Errno: api.ErrArg}, trial.Wrong{Job: callOf(none), Errno: api.ErrArg})
			}
			finals.HoldRefusals(t, f)
		}
	}
}

// Each wrong colour alone, of each hand, whether the shape has it or not; what is just in range is taken.
func TestP22_1_WrongColours(t *testing.T) {
	for _, sh := range trial.RightShapes() {
		words := memory(sh)
		for hand := range api.MaxHands {
			hands := make([][]api.Job, hand+1)
			for _, none := range trial.NoColours() {
				for _, j := range []api.Job{clearOf(none), callOf(none)} {
					hands[hand] = []api.Job{j}
					if !finals.IsRefused(sh, words, hands, 9, api.ErrArg) || !finals.IsRefused(sh, words, hands, 0, api.ErrArg) {
						t.Error(sh, hand, j)
					}
				}
			}
			hands[hand] = []api.Job{clearOf(0), clearOf(1), callOf(0), callOf(1), due}
			if x, a := play(t, sh, words, hands, nil, api.MaxSteps); !x.Ended || len(a[hand]) != 5 {
				t.Error(sh, hand, x, a)
			}
		}
	}
}

// Of the shape, of the words, of limits and of most errors come ahead of a job's; a job's is that of the first one, hand by hand and
// job by job; and of one job ErrKind is ahead of ErrArg.
func TestP22_1_WhatComesFirst(t *testing.T) {
	odd := api.Job{Kind: 4, A: -1, B: 3, C: 5}
	fine, wrong, far := clearOf(1), callOf(2), clearOf(-1)
	long := slices.Repeat([]api.Job{fine}, api.MaxJobs+1)
	words := memory(three)
	least := api.Shape{Objects: 1, Hands: 1, Roots: 1}
	for _, c := range []struct {
		name     string
		shape    api.Shape
		words    []uint64
		hands    [][]api.Job
		schedule []int
		most     int
		want     api.Errno
	}{
		{"fine", three, words, [][]api.Job{{fine, callOf(0)}, {due}, {callOf(1)}}, nil, 9, api.OK},
		{"a colour", three, words, [][]api.Job{{wrong}}, nil, 9, api.ErrArg},
		{"a colour, and no steps", three, words, [][]api.Job{{wrong}}, nil, 0, api.ErrArg},
		{"a colour below 0", three, words, [][]api.Job{{far}}, nil, 9, api.ErrArg},
		{"a kind, and no steps", three, words, [][]api.Job{{odd}}, nil, 0, api.ErrKind},
		{"a colour, then a kind", three, words, [][]api.Job{{wrong}, {odd}}, nil, 9, api.ErrArg},
		{"a kind, then a colour", three, words, [][]api.Job{{odd}, {far}}, nil, 9, api.ErrKind},
		{"a kind amid", three, words, [][]api.Job{{due, odd, far}}, nil, 9, api.ErrKind},
		{"a colour amid", three, words, [][]api.Job{{due, far, odd}}, nil, 9, api.ErrArg},
		{"a kind of 0", three, words, [][]api.Job{{{}}, {far}}, nil, 9, api.ErrKind},
		{"the last hand's last job", three, words, [][]api.Job{nil, {}, nil, nil, nil, nil, {fine}, {due, wrong}}, nil, 9, api.ErrArg},
		{"as many jobs as may be", three, words, [][]api.Job{nil, long[1:]}, nil, 9, api.OK},
		{"as many hands as may be", three, words, slices.Repeat([][]api.Job{{fine}}, api.MaxHands), nil, 9, api.OK},
		{"as many steps as may be", three, words, [][]api.Job{{fine}}, make([]int, api.MaxSteps), api.MaxSteps, api.OK},
		{"most below 0", three, words, [][]api.Job{{odd}}, nil, -1, api.ErrArg},
		{"most", three, words, [][]api.Job{{wrong}}, nil, api.MaxSteps + 1, api.ErrLong},
		{"a schedule", three, words, [][]api.Job{{far}}, make([]int, api.MaxSteps+1), -1, api.ErrLong},
		{"jobs", three, words, [][]api.Job{{wrong}, long}, nil, -1, api.ErrLong},
		{"hands", three, words, append(slices.Repeat([][]api.Job{{far}}, api.MaxHands), nil), nil, -1, api.ErrLong},
		{"a word too few", three, words[1:], [][]api.Job{{wrong}, long}, nil, -1, api.ErrSize},
		{"a word too many", three, append(slices.Clone(words), 0), [][]api.Job{{wrong}, long}, nil, -1, api.ErrSize},
		{"no words", three, nil, [][]api.Job{{wrong}, long}, nil, -1, api.ErrSize},
		{"words of another shape", least, words, [][]api.Job{{wrong}}, nil, 9, api.ErrSize},
		{"as many words as no memory has", three, make([]uint64, api.MaxWords+1), [][]api.Job{{wrong}}, nil, 9, api.ErrSize},
		{"no shape", api.Shape{Room: 5}, nil, [][]api.Job{{wrong}, long}, nil, -1, api.ErrShape},
		{"a hand too many", api.Shape{Objects: 1, Hands: api.MaxHands, Roots: 1}, nil, [][]api.Job{{odd}}, nil, 9, api.ErrShape},
		{"the least shape", least, make([]uint64, 13), [][]api.Job{{fine, callOf(0), due}}, nil, 9, api.OK},
		{"the least shape and a colour", least, make([]uint64, 13), [][]api.Job{{fine, wrong, odd}}, nil, 9, api.ErrArg},
		{"the least shape and a kind", least, make([]uint64, 13), [][]api.Job{{fine, odd}, {wrong}}, nil, 9, api.ErrKind},
	} {
		x, a, e := final.Play(c.shape, c.words, c.hands, c.schedule, c.most)
		if e != c.want || e != api.OK && (a != nil || x.Steps != nil || x.Words != nil || x.Ended) {
			t.Errorf("%s: %v %v %v; want %v", c.name, x, a, e, c.want)
		}
	}
}

// The fields that a kind doesn't use are not looked at, and the shape's Room neither: a Due uses none. Of a kind that is none no field
// is.
func TestP22_1_FieldsNotUsed(t *testing.T) {
	words := puts(memory(three, cell{5, 7}, cell{half + 0xd, 8}, cell{0, 9}), 3, 2, 18, 0, 10, 1, 15, 0)
	for _, n := range append(trial.Ends(), 2, 5, 64) {
		sh := three
		sh.Room = n
		odd := func(kind, colour int) api.Job { return api.Job{Kind: kind, A: n, B: n, C: colour, H: uint64(n)} }
		x, a := play(t, sh, words, [][]api.Job{nil, {odd(final.Due, n), odd(final.Clear, 1), odd(final.Call, 1), odd(final.Due, n), odd(final.Due, n)}}, nil, 100)
		if !x.Ended || !slices.Equal(a[1], []api.Answer{told(half + 2), told(1), told(1), told(1), none}) {
			t.Error(n, x, a)
		}
		if !finals.IsRefused(sh, words, [][]api.Job{{{Kind: 4, A: n, B: n, C: n}}}, 9, api.ErrKind) {
			t.Error(n)
		}
	}
}

func TestP22_1_NothingToDo(t *testing.T) {
	from := trial.Source(21)
	for _, sh := range trial.RightShapes() {
		for _, j := range []api.Job{clearOf(1), callOf(0), due} {
			finals.HoldNothingPlayed(t, sh, anyWords(&from, sh), j)
		}
	}
}

func TestP22_1_LeavesItsArguments(t *testing.T) {
	words := puts(memory(three, cell{5, 7}, cell{half + 1, 0}, cell{5, 9}), 3, 2, 18, 0, 10, 1, 11, 2, 15, tagged(2, 1), 19, 0, 23, 1)
	finals.HoldMemory(t, three, words, [][]api.Job{{clearOf(1), callOf(1)}, {due, due}, {clearOf(0), due}}, []int{1, 0, -1}, 500)
	finals.HoldMemory(t, three, words, [][]api.Job{{callOf(1)}, {due, callOf(1)}}, []int{0}, 300)
}

// Two tasks of one job, and of one hand, stand each for itself.
func TestP22_1_TasksApart(t *testing.T) {
	words := puts(memory(three, cell{5, 7}, cell{half + 5, 8}, cell{3, 9}), 10, 1, 11, tagged(2, 1), 15, 0, 19, 0, 23, 0)
	twice := []api.Job{clearOf(1), callOf(1), due}
	for schedule := range trial.Lists(2, 10) {
		x, a := play(t, three, words, [][]api.Job{twice, twice}, schedule, 300)
		wiped, taken := a[0][0].Val+a[1][0].Val, a[0][1].Val+a[1][1].Val
		if !x.Ended || wiped != 2 || taken != 2 {
			t.Fatal(schedule, x, a)
		}
	}
	// Tasks that were made at one time are driven one behind the other.
	wipe, gather, take := final.Wipe(three, 0, 1), final.Gather(three, 1, 1), final.Take(three, 2)
	final.Wipe(three, 1, 1)
	final.Gather(three, 0, 1)
	final.Take(three, 1)
	steps, a, behind := trial.Drive(t, wipe, words, nil)
	if len(steps) != 6 || a != told(2) || gather.Answer() != none || take.Answer() != none {
		t.Error(steps, a)
	}
	steps, a, behind = trial.Drive(t, gather, behind, nil)
	if len(steps) != 11+2*4+1+2*4 || steps[0].Hand != 1 || a != told(2) || wipe.Answer() != told(2) || take.Answer() != none {
		t.Error(len(steps), steps, a)
	}
	steps, a, _ = trial.Drive(t, take, behind, nil)
	if len(steps) != 4 || steps[0].Hand != 2 || a != told(half+2) || gather.Answer() != told(2) {
		t.Error(steps, a)
	}
}

// Nothing is kept from call to call: between calls that are refused, and calls with other shapes, each one answers the same.
func TestP22_1_NothingIsKept(t *testing.T) {
	from := trial.Source(22)
	wrong := trial.WrongShapes()
	for i := range 300 {
		sh, other := from.SmallShape(), from.SmallShape()
		words, others := anyWords(&from, sh), anyWords(&from, other)
		hands, schedule := anyJobs(&from, both, 4, 4), from.Schedule(60)
		x, a := play(t, sh, words, hands, schedule, 150)
		final.Play(wrong[i*31%len(wrong)], words, hands, schedule, 150)
		final.Play(sh, words[1:], hands, schedule, 150)
		final.Play(sh, words, [][]api.Job{{clearOf(2)}}, schedule, 150)
		play(t, other, others, anyJobs(&from, both, 4, 4), schedule, 50)
		if y, b := play(t, sh, words, hands, schedule, 150); !trial.SameTrace(x, y) || !trial.SameAnswers(a, b) {
			t.Fatalf("%+v: %v %v; was %v %v", sh, y, b, x, a)
		}
	}
}
