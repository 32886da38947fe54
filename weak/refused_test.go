package weak_test

import (
	"math"
	"slices"
	"testing"

	"midden/api"
	"midden/shape"
	"midden/trial"
	"midden/weak"
)

// farNumbers: what is out of the range from 0 to most; some of them are in it by their lower half alone.
func farNumbers(most int) []int {
	return append(trial.Ends(), -3, most+1, most+2, 1<<32, 1<<32+1, -1<<32+1, 1<<62)
}

// wrongJobs: each field that a kind uses, out of its range.
func wrongJobs(sh api.Shape) []api.Job {
	var out []api.Job
	for _, n := range farNumbers(sh.Weaks - 1) {
		out = append(out, set(n, 1))
		for phase := range 5 {
			out = append(out, see(n, phase, phase%2))
		}
	}
	for number := range sh.Weaks {
		for _, n := range farNumbers(4) {
			out = append(out, see(number, n, number%2))
		}
		for _, n := range farNumbers(1) {
			out = append(out, see(number, number%5, n))
		}
	}
	return out
}

// fineJobs: of a shape that has weak words.
func fineJobs(sh api.Shape) []api.Job {
	out := []api.Job{set(0, 1), set(sh.Weaks-1, math.MaxUint64)}
	for phase := range 5 {
		out = append(out, see(sh.Weaks-1, phase, 0), see(0, phase, 1))
	}
	return out
}

// weakShapes: those right shapes that have weak words.
func weakShapes() []api.Shape {
	return slices.DeleteFunc(trial.RightShapes(), func(sh api.Shape) bool { return sh.Weaks == 0 })
}

func TestP19_1_ErrorsInOrder(t *testing.T) {
	for _, sh := range weakShapes() {
		for i, fine := range fineJobs(sh) {
			f := trial.HeapFaults(sh, fine, weak.See)
			for k, j := range wrongJobs(sh) {
				if k%12 == i {
					f.Wrong = append(f.Wrong, trial.Wrong{Job: j, Errno: api.ErrArg})
				}
			}
			weaks.HoldRefusals(t, f)
		}
	}
}

// Each wrong field alone, of each hand; what is just in range is taken.
func TestP19_1_WrongFields(t *testing.T) {
	for _, sh := range trial.RightShapes() {
		words := trial.Memory(sh, api.Grey, 0)
		for _, j := range wrongJobs(sh) {
			for hand := range api.MaxHands {
				hands := make([][]api.Job, hand+1)
				hands[hand] = []api.Job{j}
				if !weaks.IsRefused(sh, words, hands, 9, api.ErrArg) || !weaks.IsRefused(sh, words, hands, 0, api.ErrArg) {
					t.Error(sh, hand, j)
				}
			}
		}
		for number := range sh.Weaks {
			for hand := range api.MaxHands {
				hands := make([][]api.Job, hand+1)
				hands[hand] = []api.Job{set(number, 5)}
				for phase := range 5 {
					hands[hand] = append(hands[hand], see(number, phase, 0), see(number, phase, 1))
				}
				x, a := play(t, sh, words, hands, nil, 100)
				if !x.Ended || len(a[hand]) != 11 || x.Words[trial.WeakAt(sh, number)] != 5 {
					t.Error(sh, hand, number, x, a)
				}
			}
		}
	}
}

// A shape without weak words has no jobs; but runs without any.
func TestP19_1_NoWeakWords(t *testing.T) {
	for _, sh := range trial.RightShapes() {
		sh.Weaks = 0
		words, _ := shape.Fresh(sh)
		for _, j := range append(fineJobs(three), set(-1, 0), see(-1, 0, 0), see(0, 5, 2)) {
			if !weaks.IsRefused(sh, words, [][]api.Job{nil, {j}}, 9, api.ErrArg) {
				t.Error(sh, j)
			}
			for _, kind := range trial.NoKinds(weak.See) {
				j.Kind = kind
				if !weaks.IsRefused(sh, words, [][]api.Job{{j}}, 9, api.ErrKind) {
					t.Error(sh, j)
				}
			}
		}
		if x, a, e := weak.Play(sh, words, make([][]api.Job, 3), []int{1}, 5); e != api.OK || !x.Ended || !slices.Equal(x.Words, words) || len(a) != 3 {
			t.Error(sh, x, a, e)
		}
	}
}

// Of the shape, of the words, of limits and of most errors come ahead of a job's; a job's is that of the first one, hand by hand and
// job by job; and of one job ErrKind is ahead of ErrArg.
func TestP19_1_WhatComesFirst(t *testing.T) {
	odd := api.Job{Kind: 3, A: -1, B: 3, C: 5}
	fine, wrong, far := see(2, api.Close, 1), see(0, 5, 1), set(3, 1)
	long := slices.Repeat([]api.Job{fine}, api.MaxJobs+1)
	words := memory(0)
	least := api.Shape{Objects: 1, Hands: 1, Roots: 1, Weaks: 1}
	for _, c := range []struct {
		name     string
		shape    api.Shape
		words    []uint64
		hands    [][]api.Job
		schedule []int
		most     int
		want     api.Errno
	}{
		{"fine", three, words, [][]api.Job{{fine, set(0, 1)}, {set(2, 0), see(0, 0, 0)}, {fine}}, nil, 9, api.OK},
		{"a phase", three, words, [][]api.Job{{wrong}}, nil, 9, api.ErrArg},
		{"a phase, and no steps", three, words, [][]api.Job{{wrong}}, nil, 0, api.ErrArg},
		{"a colour", three, words, [][]api.Job{{see(0, 0, 2)}}, nil, 9, api.ErrArg},
		{"a weak word", three, words, [][]api.Job{{far}}, nil, 9, api.ErrArg},
		{"a phase, then a kind", three, words, [][]api.Job{{wrong}, {odd}}, nil, 9, api.ErrArg},
		{"a kind, then a weak word", three, words, [][]api.Job{{odd}, {far}}, nil, 9, api.ErrKind},
		{"a kind amid", three, words, [][]api.Job{{fine, odd, far}}, nil, 9, api.ErrKind},
		{"a weak word amid", three, words, [][]api.Job{{fine, far, odd}}, nil, 9, api.ErrArg},
		{"a kind of 0", three, words, [][]api.Job{{{}}, {far}}, nil, 9, api.ErrKind},
		{"the last hand's last job", three, words, [][]api.Job{nil, {}, nil, nil, nil, nil, {fine}, {fine, wrong}}, nil, 9, api.ErrArg},
		{"as many jobs as may be", three, words, [][]api.Job{nil, long[1:]}, nil, 9, api.OK},
		{"most below 0", three, words, [][]api.Job{{odd}}, nil, -1, api.ErrArg},
		{"most", three, words, [][]api.Job{{wrong}}, nil, api.MaxSteps + 1, api.ErrLong},
		{"a schedule", three, words, [][]api.Job{{far}}, make([]int, api.MaxSteps+1), -1, api.ErrLong},
		{"jobs", three, words, [][]api.Job{{wrong}, long}, nil, -1, api.ErrLong},
		{"hands", three, words, append(slices.Repeat([][]api.Job{{far}}, api.MaxHands), nil), nil, -1, api.ErrLong},
		{"a word too few", three, words[1:], [][]api.Job{{wrong}, long}, nil, -1, api.ErrSize},
		{"no words", three, nil, [][]api.Job{{wrong}, long}, nil, -1, api.ErrSize},
		{"words of another shape", least, words, [][]api.Job{{wrong}}, nil, 9, api.ErrSize},
		{"as many words as no memory has", three, make([]uint64, api.MaxWords+1), [][]api.Job{{wrong}}, nil, 9, api.ErrSize},
		{"no shape", api.Shape{Room: 5}, nil, [][]api.Job{{wrong}, long}, nil, -1, api.ErrShape},
		{"a weak word too many", api.Shape{Objects: 1, Hands: 1, Roots: 1, Weaks: api.MaxWeaks + 1}, nil, [][]api.Job{{odd}}, nil, 9, api.ErrShape},
		{"the least shape", least, make([]uint64, 14), [][]api.Job{{set(0, 1), see(0, api.Mark, 1)}}, nil, 9, api.OK},
		{"the least shape has no second weak word", least, make([]uint64, 14), [][]api.Job{{set(0, 1), set(1, 1), odd}}, nil, 9, api.ErrArg},
		{"the least shape and a kind", least, make([]uint64, 14), [][]api.Job{{set(0, 1), odd}, {set(1, 1)}}, nil, 9, api.ErrKind},
	} {
		x, a, e := weak.Play(c.shape, c.words, c.hands, c.schedule, c.most)
		if e != c.want || e != api.OK && (a != nil || x.Steps != nil || x.Words != nil || x.Ended) {
			t.Errorf("%s: %v %v %v; want %v", c.name, x, a, e, c.want)
		}
	}
}

// The fields that a kind doesn't use are not looked at, and the shape's Room neither; of a kind that is none no field is.
func TestP19_1_FieldsNotUsed(t *testing.T) {
	for _, n := range append(trial.Ends(), 2, 5, 64) {
		sh := three
		sh.Room = n
		words := puts(memory(0, cell{1, 0}, cell{1, 0}, cell{1, 0}), 13, 2)
		x, a := play(t, sh, words, [][]api.Job{nil, {
			{Kind: weak.Make, A: n, B: 0, C: n, H: 3},
			{Kind: weak.See, A: 1, B: 0, C: api.Idle, H: uint64(n)},
			{Kind: weak.See, A: 1, B: 1, C: api.Mark, H: uint64(n)},
			{Kind: weak.See, A: 1, B: 1, C: api.Close, H: uint64(n)},
		}}, nil, 100)
		if !x.Ended || !slices.Equal(a[1], []api.Answer{told(3), told(3), told(2), told(2)}) || len(x.Steps) != 1+1+6+3 || x.Words[12] != 3 {
			t.Error(n, x, a)
		}
		if !weaks.IsRefused(sh, words, [][]api.Job{{{Kind: 3, A: n, B: n, C: n}}}, 9, api.ErrKind) {
			t.Error(n)
		}
	}
}

func TestP19_1_NothingToDo(t *testing.T) {
	from := trial.Source(21)
	for _, sh := range weakShapes() {
		for _, fine := range fineJobs(sh) {
			weaks.HoldNothingPlayed(t, sh, anyWords(&from, sh), fine)
		}
	}
}

func TestP19_1_LeavesItsArguments(t *testing.T) {
	hands := [][]api.Job{{see(0, api.Mark, 1), set(0, 3)}, {see(1, api.Close, 1), see(2, api.Arm, 0)}, {set(1, 0)}}
	words := puts(memory(tagged(3, 1), cell{1, 9}, cell{1, 9}, cell{3, 0}), 12, 1, 13, 2, 14, 3)
	weaks.HoldMemory(t, three, words, hands, []int{1, 0, -1}, 100)
	weaks.HoldMemory(t, three, words, [][]api.Job{{set(0, 0)}, {see(1, api.Idle, 0), see(1, api.Mark, 1)}}, []int{0}, 5)
}

// Two tasks of one job, and of one hand, stand each for itself.
func TestP19_1_TasksApart(t *testing.T) {
	words := puts(memory(0, cell{1, 9}, cell{1, 9}, cell{1, 9}), 12, 1)
	twice := slices.Repeat([]api.Job{see(0, api.Mark, 1)}, 2)
	for schedule := range trial.Lists(2, 10) {
		x, a := play(t, three, words, [][]api.Job{twice, twice}, schedule, 200)
		if !x.Ended || !trial.SameAnswers(a, [][]api.Answer{{told(1), told(1)}, {told(1), told(1)}}) || x.Words[2] != tagged(1, 1) {
			t.Fatal(schedule, x, a)
		}
	}
	k := weak.Get(three, 0, 0, api.Mark, 1)
	weak.Get(three, 1, 1, api.Close, 0)
	weak.Set(three, 2, 0, 3)
	steps, a, after := trial.Drive(t, k, words, nil)
	if len(steps) != 6 || a != told(1) || after[12] != 1 {
		t.Error(steps, a)
	}
}

// Nothing is kept from call to call: between calls that are refused, and calls with other shapes, each one answers the same.
func TestP19_1_NothingIsKept(t *testing.T) {
	from := trial.Source(22)
	wrong := trial.WrongShapes()
	for i := range 300 {
		sh, other := anyShape(&from), anyShape(&from)
		words, others := anyWords(&from, sh), anyWords(&from, other)
		hands, schedule := anyJobs(&from, sh, words, both, 4, 5), from.Schedule(30)
		x, a := play(t, sh, words, hands, schedule, 100)
		weak.Play(wrong[i*31%len(wrong)], words, hands, schedule, 100)
		weak.Play(sh, words[1:], hands, schedule, 100)
		weak.Play(sh, words, [][]api.Job{{see(0, 5, 1)}}, schedule, 100)
		play(t, other, others, anyJobs(&from, other, others, both, 4, 5), schedule, 50)
		if y, b := play(t, sh, words, hands, schedule, 100); !trial.SameTrace(x, y) || !trial.SameAnswers(a, b) {
			t.Fatalf("%+v: %v %v; was %v %v", sh, y, b, x, a)
		}
	}
}
