package sweep_test

import (
	"slices"
	"testing"

	"midden/api"
	"midden/sweep"
	"midden/trial"
)

func TestP21_1_ErrorsInOrder(t *testing.T) {
	for _, sh := range trial.RightShapes() {
		for colour := range 2 {
			f := trial.HeapFaults(sh, pass(colour), sweep.Pass)
			for _, none := range trial.NoColours() {
				f.Wrong = append(f.Wrong, trial.Wrong{Job: pass(none), Errno: api.ErrArg})
			}
			sweeps.HoldRefusals(t, f)
		}
	}
}

// Each wrong colour alone, of each hand, whether the shape has it or not; what is just in range is taken.
func TestP21_1_WrongColours(t *testing.T) {
	for _, sh := range trial.RightShapes() {
		words := memory(sh, 0)
		for hand := range api.MaxHands {
			hands := make([][]api.Job, hand+1)
			for _, none := range trial.NoColours() {
				hands[hand] = []api.Job{pass(none)}
				if !sweeps.IsRefused(sh, words, hands, 9, api.ErrArg) || !sweeps.IsRefused(sh, words, hands, 0, api.ErrArg) {
					t.Error(sh, hand, none)
				}
			}
			hands[hand] = []api.Job{pass(0), pass(1)}
			if x, a := play(t, sh, words, hands, nil, api.MaxSteps); !x.Ended || len(a[hand]) != 2 {
				t.Error(sh, hand, x, a)
			}
		}
	}
}

// Of the shape, of the words, of limits and of most errors come ahead of a job's; a job's is that of the first one, hand by hand and
// job by job; and of one job ErrKind is ahead of ErrArg.
func TestP21_1_WhatComesFirst(t *testing.T) {
	odd := api.Job{Kind: 2, A: -1, B: 3, C: 5}
	fine, wrong, far := pass(1), pass(2), pass(-1)
	long := slices.Repeat([]api.Job{fine}, api.MaxJobs+1)
	words := memory(three, 0)
	least := api.Shape{Objects: 1, Hands: 1, Roots: 1}
	for _, c := range []struct {
		name     string
		shape    api.Shape
		words    []uint64
		hands    [][]api.Job
		schedule []int
		most     int
		want     api.Errno
	}{
		{"fine", three, words, [][]api.Job{{fine, pass(0)}, {pass(0)}, {fine}}, nil, 9, api.OK},
		{"a colour", three, words, [][]api.Job{{wrong}}, nil, 9, api.ErrArg},
		{"a colour, and no steps", three, words, [][]api.Job{{wrong}}, nil, 0, api.ErrArg},
		{"a colour below 0", three, words, [][]api.Job{{far}}, nil, 9, api.ErrArg},
		{"a kind, and no steps", three, words, [][]api.Job{{odd}}, nil, 0, api.ErrKind},
		{"a colour, then a kind", three, words, [][]api.Job{{wrong}, {odd}}, nil, 9, api.ErrArg},
		{"a kind, then a colour", three, words, [][]api.Job{{odd}, {far}}, nil, 9, api.ErrKind},
		{"a kind amid", three, words, [][]api.Job{{fine, odd, far}}, nil, 9, api.ErrKind},
		{"a colour amid", three, words, [][]api.Job{{fine, far, odd}}, nil, 9, api.ErrArg},
		{"a kind of 0", three, words, [][]api.Job{{{}}, {far}}, nil, 9, api.ErrKind},
		{"the last hand's last job", three, words, [][]api.Job{nil, {}, nil, nil, nil, nil, {fine}, {fine, wrong}}, nil, 9, api.ErrArg},
		{"as many jobs as may be", three, words, [][]api.Job{nil, long[1:]}, nil, 9, api.OK},
		{"as many hands as may be", three, words, slices.Repeat([][]api.Job{{fine}}, api.MaxHands), nil, 9, api.OK},
		{"as many steps as may be", three, words, [][]api.Job{{fine}}, make([]int, api.MaxSteps), api.MaxSteps, api.OK},
		{"most below 0", three, words, [][]api.Job{{odd}}, nil, -1, api.ErrArg},
		{"most", three, words, [][]api.Job{{wrong}}, nil, api.MaxSteps + 1, api.ErrLong},
		{"a schedule", three, words, [][]api.Job{{far}}, make([]int, api.MaxSteps+1), -1, api.ErrLong},
		{"jobs", three, words, [][]api.Job{{wrong}, long}, nil, -1, api.ErrLong},
		{"hands", three, words, append(slices.Repeat([][]api.Job{{far}}, api.MaxHands), nil), nil, -1, api.ErrLong},
		{"a word too few", three, words[1:], [][]api.Job{{wrong}, long}, nil, -1, api.ErrSize},
		{"a word too many", three, append(slices.Clone(words), 0), [][]api.Job{{wrong}, long}, nil, -1, api.ErrSize},
		{"no words", three, nil, [][]api.Job{{wrong}, long}, nil, -1, api.ErrSize},
		{"words of another shape", least, words, [][]api.Job{{wrong}}, nil, 9, api.ErrSize},
		{"as many words as no memory has", three, make([]uint64, api.MaxWords+1), [][]api.Job{{wrong}}, nil, 9, api.ErrSize},
		{"no shape", api.Shape{Room: 5}, nil, [][]api.Job{{wrong}, long}, nil, -1, api.ErrShape},
		{"a hand too many", api.Shape{Objects: 1, Hands: api.MaxHands, Roots: 1}, nil, [][]api.Job{{odd}}, nil, 9, api.ErrShape},
		{"the least shape", least, make([]uint64, 13), [][]api.Job{{fine, pass(0)}}, nil, 9, api.OK},
		{"the least shape and a colour", least, make([]uint64, 13), [][]api.Job{{fine, wrong, odd}}, nil, 9, api.ErrArg},
		{"the least shape and a kind", least, make([]uint64, 13), [][]api.Job{{fine, odd}, {wrong}}, nil, 9, api.ErrKind},
	} {
		x, a, e := sweep.Play(c.shape, c.words, c.hands, c.schedule, c.most)
		if e != c.want || e != api.OK && (a != nil || x.Steps != nil || x.Words != nil || x.Ended) {
			t.Errorf("%s: %v %v %v; want %v", c.name, x, a, e, c.want)
		}
	}
}

// The fields that a Pass doesn't use are not looked at, and the shape's Room neither; of a kind that is none no field is.
func TestP21_1_FieldsNotUsed(t *testing.T) {
	words := memory(three, 0, cell{1, 7}, cell{3, 8}, cell{0, 9})
	for _, n := range append(trial.Ends(), 2, 5, 64) {
		sh := three
		sh.Room = n
		x, a := play(t, sh, words, [][]api.Job{nil, {{Kind: sweep.Pass, A: n, B: n, C: 1, H: uint64(n)}}}, nil, 100)
		if !x.Ended || !slices.Equal(a[1], []api.Answer{told(1)}) || len(x.Steps) != 1+8+2+1 || x.Words[15] != 0x103 {
			t.Error(n, x, a)
		}
		if !sweeps.IsRefused(sh, words, [][]api.Job{{{Kind: 2, A: n, B: n, C: n}}}, 9, api.ErrKind) {
			t.Error(n)
		}
	}
}

func TestP21_1_NothingToDo(t *testing.T) {
	from := trial.Source(21)
	for _, sh := range trial.RightShapes() {
		for colour := range 2 {
			sweeps.HoldNothingPlayed(t, sh, anyWords(&from, sh), pass(colour))
		}
	}
}

func TestP21_1_LeavesItsArguments(t *testing.T) {
	words := memory(three, tagged(2, 1), cell{1, 7}, cell{0, 0}, cell{3, 9})
	sweeps.HoldMemory(t, three, words, [][]api.Job{{pass(1), pass(0)}, {pass(1)}, {pass(0), pass(0)}}, []int{1, 0, -1}, 500)
	sweeps.HoldMemory(t, three, words, [][]api.Job{{pass(0)}, {pass(1), pass(1)}}, []int{0}, 300)
}

// Two tasks of one job, and of one hand, stand each for itself.
func TestP21_1_TasksApart(t *testing.T) {
	words := memory(three, tagged(0, 1), cell{3, 7}, cell{3, 8}, cell{3, 9})
	twice := []api.Job{pass(1), pass(1)}
	for schedule := range trial.Lists(2, 10) {
		x, a := play(t, three, words, [][]api.Job{twice, twice}, schedule, 300)
		if !x.Ended || !slices.Equal(slices.Concat(a...), slices.Repeat([]api.Answer{told(0)}, 4)) {
			t.Fatal(schedule, x, a)
		}
	}
	// Tasks that were made at one time are driven one behind the other.
	one, other := sweep.All(three, 0, 1), sweep.All(three, 1, 0)
	sweep.All(three, 1, 1)
	steps, a, behind := trial.Drive(t, one, words, nil)
	if len(steps) != 6 || a != told(0) || behind[10] != 0x103 || other.Answer() != (api.Answer{}) {
		t.Error(steps, a, behind)
	}
	steps, a, behind = trial.Drive(t, other, behind, nil)
	if len(steps) != 3*9 || steps[0].Hand != 1 || a != told(3) || behind[10] != half || one.Answer() != told(0) {
		t.Error(steps, a, behind)
	}
}

// Nothing is kept from call to call: between calls that are refused, and calls with other shapes, each one answers the same.
func TestP21_1_NothingIsKept(t *testing.T) {
	from := trial.Source(22)
	wrong := trial.WrongShapes()
	for i := range 300 {
		sh, other := from.SmallShape(), from.SmallShape()
		words, others := anyWords(&from, sh), anyWords(&from, other)
		hands, schedule := anyJobs(&from, both, 4, 4), from.Schedule(60)
		x, a := play(t, sh, words, hands, schedule, 150)
		sweep.Play(wrong[i*31%len(wrong)], words, hands, schedule, 150)
		sweep.Play(sh, words[1:], hands, schedule, 150)
		sweep.Play(sh, words, [][]api.Job{{pass(2)}}, schedule, 150)
		play(t, other, others, anyJobs(&from, both, 4, 4), schedule, 50)
		if y, b := play(t, sh, words, hands, schedule, 150); !trial.SameTrace(x, y) || !trial.SameAnswers(a, b) {
			t.Fatalf("%+v: %v %v; was %v %v", sh, y, b, x, a)
		}
	}
}
