package store_test

import (
	"math"
	"slices"
	"testing"

	"midden/api"
	"midden/store"
	"midden/trial"
)

// wrongJobs: each field that a kind uses, out of its range; of every hand they are refused.
func wrongJobs(sh api.Shape) []api.Job {
	var out []api.Job
	ends := append(trial.Ends(), -3, 1<<32, 1<<32+1, -1<<32+1, 1<<62)
	for _, n := range append(ends, 3, 4) {
		out = append(out, intoRoot(0, 1, n), intoSlot(1, 0, 1, n))
	}
	for bar := range 3 {
		for _, n := range append(ends, sh.Roots, sh.Roots+1) {
			out = append(out, intoRoot(n, 1, bar))
		}
		for _, n := range slices.Concat(ends, farNumbers(sh.Objects), []int{0}) {
			out = append(out, intoSlot(n, 0, 1, bar))
		}
		for _, n := range append(ends, sh.Slots, sh.Slots+1) {
			out = append(out, intoSlot(1, n, 1, bar), intoSlot(sh.Objects, n, 1, bar))
		}
	}
	return out
}

// fineJobs: what a second hand may have too.
func fineJobs(sh api.Shape) []api.Job {
	var out []api.Job
	for bar := range 3 {
		if sh.Hands > 1 {
			out = append(out, intoRoot(0, 1, bar), intoRoot(sh.Roots-1, math.MaxUint64, bar))
		}
		if sh.Slots > 0 {
			out = append(out, intoSlot(1, 0, 1, bar), intoSlot(sh.Objects, sh.Slots-1, math.MaxUint64, bar))
		}
	}
	return out
}

func TestP18_1_ErrorsInOrder(t *testing.T) {
	for _, sh := range trial.RightShapes() {
		for i, fine := range fineJobs(sh) {
			f := trial.HeapFaults(sh, fine, store.IntoSlot)
			for k, j := range wrongJobs(sh) {
				if k%7 == i%7 {
					f.Wrong = append(f.Wrong, trial.Wrong{Job: j, Errno: api.ErrArg})
				}
			}
			stores.HoldRefusals(t, f)
		}
	}
}

// Each wrong field alone; what is just in range is taken.
func TestP18_1_WrongFields(t *testing.T) {
	for _, sh := range trial.RightShapes() {
		words := trial.Memory(sh, api.Grey, 0)
		for _, j := range wrongJobs(sh) {
			for hand := range sh.Hands {
				hands := make([][]api.Job, hand+1)
				hands[hand] = []api.Job{j}
				if x, a, e := store.Play(sh, words, hands, nil, 9); e != api.ErrArg || a != nil || x.Steps != nil || x.Words != nil || x.Ended {
					t.Errorf("%v: %v %v %v", j, x, a, e)
				}
			}
		}
		for bar := range 3 {
			for root := range sh.Roots {
				play(t, sh, words, [][]api.Job{{intoRoot(root, 1, bar)}}, nil, 20)
			}
			for number := 1; number <= sh.Objects; number++ {
				for slot := range sh.Slots {
					play(t, sh, words, [][]api.Job{{intoSlot(number, slot, 1, bar)}}, nil, 20)
				}
			}
		}
	}
}

// A hand that the shape doesn't have has no roots; slots it may store into.
func TestP18_1_HandsPastTheShape(t *testing.T) {
	for hands := 1; hands < api.MaxHands; hands++ {
		sh := api.Shape{Objects: 2, Slots: 1, Hands: hands, Roots: 3}
		words := trial.Memory(sh, api.Grey, 0)
		for hand := range api.MaxHands {
			for bar := range 3 {
				for root := range 3 {
					jobs := make([][]api.Job, hand+1)
					jobs[hand] = []api.Job{intoRoot(root, 5, bar)}
					x, a, e := store.Play(sh, words, jobs, nil, 9)
					if isThere := hand < hands; isThere && (e != api.OK || x.Words[trial.RootAt(sh, hand, root)] != 5) || !isThere && (e != api.ErrArg || a != nil || x.Words != nil) {
						t.Error(hands, hand, root, bar, x, a, e)
					}
				}
				jobs := make([][]api.Job, hand+1)
				jobs[hand] = []api.Job{intoSlot(2, 0, 5, bar)}
				if x, _ := play(t, sh, words, jobs, nil, 9); x.Steps[0].Hand != hand || x.Words[trial.SlotAt(sh, 2, 0)] != 5 {
					t.Error(hands, hand, bar, x)
				}
			}
		}
	}
}

// The same with jobs whose error is ErrArg: of the shape, of the words, of limits and of most comes ahead of it; a job's error
// is that of the first one, hand by hand and job by job.
func TestP18_1_WhatComesFirst(t *testing.T) {
	odd := api.Job{Kind: 3, A: -1, B: 2, C: 3}
	fine, wrong, far := intoSlot(1, 0, 1, barOne), intoRoot(0, 1, 3), intoSlot(4, 0, 1, bare)
	root := intoRoot(0, 1, bare)
	long := slices.Repeat([]api.Job{fine}, api.MaxJobs+1)
	words := memory(0)
	small := api.Shape{Objects: 1, Hands: 1, Roots: 1}
	for _, c := range []struct {
		name     string
		shape    api.Shape
		words    []uint64
		hands    [][]api.Job
		schedule []int
		most     int
		want     api.Errno
	}{
		{"fine", three, words, [][]api.Job{{fine, root}, {root, intoRoot(1, 0, barZero)}, {fine}}, nil, 9, api.OK},
		{"a barrier", three, words, [][]api.Job{{wrong}}, nil, 9, api.ErrArg},
		{"a barrier, and no steps", three, words, [][]api.Job{{wrong}}, nil, 0, api.ErrArg},
		{"a number", three, words, [][]api.Job{{far}}, nil, 9, api.ErrArg},
		{"a number, and no steps", three, words, [][]api.Job{{far}}, nil, 0, api.ErrArg},
		{"a third hand's root", three, words, [][]api.Job{{root}, {root}, {root}}, nil, 9, api.ErrArg},
		{"a third hand's root, then a kind", three, words, [][]api.Job{nil, nil, {root}, {odd}}, nil, 9, api.ErrArg},
		{"a kind of a hand that has no roots", three, words, [][]api.Job{nil, nil, {odd, root}}, nil, 9, api.ErrKind},
		{"a barrier, then a kind", three, words, [][]api.Job{{wrong}, {odd}}, nil, 9, api.ErrArg},
		{"a kind, then a number", three, words, [][]api.Job{{odd}, {far}}, nil, 9, api.ErrKind},
		{"a kind amid", three, words, [][]api.Job{{root, odd, far}}, nil, 9, api.ErrKind},
		{"a number amid", three, words, [][]api.Job{{root, far, odd}}, nil, 9, api.ErrArg},
		{"the last hand's last job", three, words, [][]api.Job{nil, {}, nil, nil, nil, nil, {fine}, {fine, wrong}}, nil, 9, api.ErrArg},
		{"most below 0", three, words, [][]api.Job{{odd}}, nil, -1, api.ErrArg},
		{"most", three, words, [][]api.Job{{wrong}}, nil, api.MaxSteps + 1, api.ErrLong},
		{"a schedule", three, words, [][]api.Job{{far}}, make([]int, api.MaxSteps+1), -1, api.ErrLong},
		{"jobs", three, words, [][]api.Job{{wrong}, long}, nil, -1, api.ErrLong},
		{"hands", three, words, append(slices.Repeat([][]api.Job{{far}}, api.MaxHands), nil), nil, -1, api.ErrLong},
		{"a word too few", three, words[1:], [][]api.Job{{wrong}, long}, nil, -1, api.ErrSize},
		{"no words", three, nil, [][]api.Job{{wrong}, long}, nil, -1, api.ErrSize},
		{"words of another shape", small, words, [][]api.Job{{wrong}}, nil, 9, api.ErrSize},
		{"as many words as no memory has", three, make([]uint64, api.MaxWords+1), [][]api.Job{{wrong}}, nil, 9, api.ErrSize},
		{"no shape", api.Shape{Room: 5}, nil, [][]api.Job{{wrong}, long}, nil, -1, api.ErrShape},
		{"the least shape", small, make([]uint64, 13), [][]api.Job{{root, intoRoot(0, 0, barOne)}}, nil, 9, api.OK},
		{"the least shape has no second root", small, make([]uint64, 13), [][]api.Job{{root, intoRoot(1, 0, bare), odd}}, nil, 9, api.ErrArg},
		{"the least shape has no slots", small, make([]uint64, 13), [][]api.Job{{root, intoSlot(1, 0, 0, bare), odd}}, nil, 9, api.ErrArg},
		{"the least shape has no second hand", small, make([]uint64, 13), [][]api.Job{{root}, {root, odd}}, nil, 9, api.ErrArg},
		{"the least shape and a kind", small, make([]uint64, 13), [][]api.Job{{root, odd}, {root}}, nil, 9, api.ErrKind},
	} {
		x, a, e := store.Play(c.shape, c.words, c.hands, c.schedule, c.most)
		if e != c.want || e != api.OK && (a != nil || x.Steps != nil || x.Words != nil || x.Ended) {
			t.Errorf("%s: %v %v %v; want %v", c.name, x, a, e, c.want)
		}
	}
}

// The fields that a kind doesn't use are not looked at, and the shape's Room neither; of a kind that is none no field is.
func TestP18_1_FieldsNotUsed(t *testing.T) {
	for _, n := range append(trial.Ends(), 2, 64) {
		sh := three
		sh.Room = n
		words := puts(memory(0, cell{1, 0}, cell{1, 0}, cell{1, 0}), 13, 2)
		x, a := play(t, sh, words, [][]api.Job{nil, {
			{Kind: store.IntoRoot, A: 1, B: n, C: bare, H: 3},
			{Kind: store.IntoRoot, A: 1, B: n, C: barOne, H: 1},
		}}, nil, 100)
		if !x.Ended || !slices.Equal(a[1], []api.Answer{told, told}) || len(x.Steps) != 1+12 || x.Words[13] != 1 {
			t.Error(n, x, a)
		}
		if _, _, e := store.Play(sh, words, [][]api.Job{{{Kind: 3, A: n, B: n, C: n}}}, nil, 9); e != api.ErrKind {
			t.Error(n, e)
		}
	}
}

func TestP18_1_NothingToDo(t *testing.T) {
	from := trial.Source(21)
	for _, sh := range trial.RightShapes() {
		for bar := range 3 {
			stores.HoldNothingPlayed(t, sh, anyWords(&from, sh), intoRoot(0, 1, bar))
		}
	}
}

func TestP18_1_LeavesItsArguments(t *testing.T) {
	hands := [][]api.Job{{intoSlot(1, 0, 2, barOne), intoRoot(0, 3, bare)}, {intoSlot(1, 0, 1, barOne), intoRoot(1, 9, barZero)}, {intoSlot(2, 1, 0, barOne)}}
	words := puts(memory(tagged(3, 1), cell{1, 9}, cell{1, 9}, cell{3, 0}), 10, 1, 17, 3, 23, 1)
	stores.HoldMemory(t, three, words, hands, []int{1, 0, -1}, 100)
	stores.HoldMemory(t, three, words, [][]api.Job{{intoRoot(0, 0, bare)}, {intoRoot(1, 2, bare), intoSlot(1, 0, 2, barOne)}}, []int{0}, 7)
}

// Two tasks of one job, and of one hand, stand each for itself.
func TestP18_1_TasksApart(t *testing.T) {
	words := puts(memory(0, cell{1, 9}, cell{1, 9}, cell{1, 9}), 17, 1)
	again := slices.Repeat([]api.Job{intoSlot(1, 0, 2, barOne)}, 2)
	for schedule := range trial.Lists(2, 10) {
		x, a := play(t, three, words, [][]api.Job{again, again}, schedule, 200)
		if !x.Ended || !trial.SameAnswers(a, [][]api.Answer{{told, told}, {told, told}}) || trial.Upper(x.Words[2]) != 2 || x.Words[17] != 2 {
			t.Fatal(schedule, x, a)
		}
	}
	k := store.Slot(three, 0, 1, 0, 2, true, 1)
	store.Slot(three, 1, 2, 1, 3, false, 0)
	steps, _, after := trial.Drive(t, k, words, nil)
	if len(steps) != 12 || after[17] != 2 {
		t.Error(steps)
	}
}

// Nothing is kept from call to call: between calls that are refused, and calls with other shapes, each one answers the same.
func TestP18_1_NothingIsKept(t *testing.T) {
	from := trial.Source(22)
	wrong := trial.WrongShapes()
	for i := range 300 {
		sh, other := from.Shape(), from.Shape()
		words, others := anyWords(&from, sh), anyWords(&from, other)
		hands, schedule := anyJobs(&from, sh, words, allBars, 4, 5), from.Schedule(30)
		x, a := play(t, sh, words, hands, schedule, 100)
		store.Play(wrong[i*31%len(wrong)], words, hands, schedule, 100)
		store.Play(sh, words[1:], hands, schedule, 100)
		store.Play(sh, words, [][]api.Job{{intoRoot(0, 1, 3)}}, schedule, 100)
		play(t, other, others, anyJobs(&from, other, others, allBars, 4, 5), schedule, 50)
		if y, b := play(t, sh, words, hands, schedule, 100); !trial.SameTrace(x, y) || !trial.SameAnswers(a, b) {
			t.Fatalf("%+v: %v %v; was %v %v", sh, y, b, x, a)
		}
	}
}
