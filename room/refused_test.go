package room_test

import (
	"math"
	"slices"
	"testing"

	"midden/api"
	"midden/room"
	"midden/trial"
)

// wrongBits: what is neither 0 nor 1.
func wrongBits() []int {
	return append([]int{2, 3, -3, 1 << 32, 1<<32 + 1, 1 << 62}, trial.Ends()...)
}

// wrongJobs: each field that a kind uses, out of its range.
func wrongJobs(sh api.Shape) []api.Job {
	var out []api.Job
	for _, n := range wrongBits() {
		for bit := range 2 {
			out = append(out, allocOf(n, bit), allocOf(bit, n), allocOf(n, n))
		}
	}
	for _, number := range append(farNumbers(sh.Objects), append(trial.Ends(), 0, -3, 1<<32, 1<<32+1, -1<<32+1, 1<<62)...) {
		out = append(out, back(number))
	}
	return out
}

func TestP17_1_ErrorsInOrder(t *testing.T) {
	for _, sh := range trial.RightShapes() {
		for _, fine := range []api.Job{alloc, allocOf(1, 1), back(1), back(sh.Objects)} {
			f := trial.HeapFaults(sh, fine, room.Back)
			for i, j := range wrongJobs(sh) {
				if i%3 == 0 {
					f.Wrong = append(f.Wrong, trial.Wrong{Job: j, Errno: api.ErrArg})
				}
			}
			rooms.HoldRefusals(t, f)
		}
	}
}

// Each wrong field alone; what is just in range is taken.
func TestP17_1_WrongFields(t *testing.T) {
	for _, sh := range trial.RightShapes() {
		words := fresh(t, sh)
		for _, j := range wrongJobs(sh) {
			if x, a, e := room.Play(sh, words, [][]api.Job{{j}}, nil, 9); e != api.ErrArg || a != nil || x.Steps != nil || x.Words != nil || x.Ended {
				t.Errorf("%v: %v %v %v", j, x, a, e)
			}
		}
		for number := 1; number <= sh.Objects; number++ {
			play(t, sh, words, [][]api.Job{{back(number)}}, nil, 20)
		}
	}
}

// The same with jobs whose error is ErrArg: of the shape, of the words, of limits and of most comes ahead of it; a job's error
// is that of the first one, hand by hand and job by job.
func TestP17_1_WhatComesFirst(t *testing.T) {
	odd := api.Job{Kind: 3, A: -1, B: 2, C: 2}
	wrong, far := allocOf(0, 2), back(4)
	long := slices.Repeat([]api.Job{alloc}, api.MaxJobs+1)
	words := fresh(t, three)
	for _, c := range []struct {
		name     string
		shape    api.Shape
		words    []uint64
		hands    [][]api.Job
		schedule []int
		most     int
		want     api.Errno
	}{
		{"fine", three, words, [][]api.Job{{alloc, allocOf(1, 1)}, {back(1), back(3)}}, nil, 9, api.OK},
		{"a colour", three, words, [][]api.Job{{wrong}}, nil, 9, api.ErrArg},
		{"a colour, and no steps", three, words, [][]api.Job{{wrong}}, nil, 0, api.ErrArg},
		{"a number", three, words, [][]api.Job{{far}}, nil, 9, api.ErrArg},
		{"a number, and no steps", three, words, [][]api.Job{{far}}, nil, 0, api.ErrArg},
		{"a colour, then a kind", three, words, [][]api.Job{{wrong}, {odd}}, nil, 9, api.ErrArg},
		{"a kind, then a number", three, words, [][]api.Job{{odd}, {far}}, nil, 9, api.ErrKind},
		{"a kind amid", three, words, [][]api.Job{{alloc, odd, far}}, nil, 9, api.ErrKind},
		{"a number amid", three, words, [][]api.Job{{alloc, far, odd}}, nil, 9, api.ErrArg},
		{"the last hand's last job", three, words, [][]api.Job{nil, {}, nil, nil, nil, nil, {alloc}, {alloc, wrong}}, nil, 9, api.ErrArg},
		{"most below 0", three, words, [][]api.Job{{odd}}, nil, -1, api.ErrArg},
		{"most", three, words, [][]api.Job{{wrong}}, nil, api.MaxSteps + 1, api.ErrLong},
		{"a schedule", three, words, [][]api.Job{{far}}, make([]int, api.MaxSteps+1), -1, api.ErrLong},
		{"jobs", three, words, [][]api.Job{{wrong}, long}, nil, -1, api.ErrLong},
		{"hands", three, words, append(slices.Repeat([][]api.Job{{far}}, api.MaxHands), nil), nil, -1, api.ErrLong},
		{"a word too few", three, words[1:], [][]api.Job{{wrong}, long}, nil, -1, api.ErrSize},
		{"no words", three, nil, [][]api.Job{{wrong}, long}, nil, -1, api.ErrSize},
		{"words of another shape", bare, words, [][]api.Job{{wrong}}, nil, 9, api.ErrSize},
		{"as many words as no memory has", three, make([]uint64, api.MaxWords+1), [][]api.Job{{wrong}}, nil, 9, api.ErrSize},
		{"no shape", api.Shape{Room: 5}, nil, [][]api.Job{{wrong}, long}, nil, -1, api.ErrShape},
	} {
		x, a, e := room.Play(c.shape, c.words, c.hands, c.schedule, c.most)
		if e != c.want || e != api.OK && (a != nil || x.Steps != nil || x.Words != nil || x.Ended) {
			t.Errorf("%s: %v %v %v; want %v", c.name, x, a, e, c.want)
		}
	}
}

// The fields that a kind doesn't use are not looked at, and the shape's Room neither; and there may be more hands than the shape
// has.
func TestP17_1_FieldsNotUsed(t *testing.T) {
	for _, n := range append(trial.Ends(), 2, 64) {
		sh := three
		sh.Room = n
		hands := make([][]api.Job, api.MaxHands)
		hands[7] = []api.Job{
			{Kind: room.Alloc, A: n, B: 1, C: 1, H: math.MaxUint64},
			{Kind: room.Back, A: 1, B: n, C: n, H: math.MaxUint64},
			{Kind: room.Alloc, A: n, H: math.MaxUint64},
		}
		x, a := play(t, sh, fresh(t, sh), hands, nil, 100)
		if !x.Ended || !slices.Equal(a[7], []api.Answer{trial.Told(1), trial.Told(1), trial.Told(half + 1)}) || x.Steps[0].Hand != 7 {
			t.Error(n, x, a)
		}
	}
}

func TestP17_1_NothingToDo(t *testing.T) {
	from := trial.Source(21)
	for _, sh := range trial.RightShapes() {
		for _, fine := range []api.Job{alloc, back(1)} {
			rooms.HoldNothingPlayed(t, sh, anyWords(&from, sh), fine)
		}
	}
}

func TestP17_1_LeavesItsArguments(t *testing.T) {
	hands := [][]api.Job{{alloc, back(1)}, {allocOf(1, 1), alloc}, {back(2), alloc}}
	words := memory(three, tagged(3, 1), cell{1, 9}, cell{1, 9}, cell{3, 0})
	rooms.HoldMemory(t, three, words, hands, []int{1, 0, -1}, 100)
	rooms.HoldMemory(t, three, words, hands, nil, 30)
	rooms.HoldMemory(t, three, fresh(t, three), [][]api.Job{{alloc}, {alloc}}, []int{0}, 100)
}

// Two tasks of one job, and of one hand, stand each for itself.
func TestP17_1_TasksApart(t *testing.T) {
	for schedule := range trial.Lists(2, 10) {
		_, a := holdOwned(t, three, [][]api.Job{{alloc, alloc}, {alloc, alloc}}, schedule, api.MaxSteps)
		made := map[uint64]int{}
		for _, told := range slices.Concat(a...) {
			made[told.Val]++
		}
		if made[0] != 1 || made[1] != 1 || made[2] != 1 || made[3] != 1 {
			t.Fatal(schedule, a)
		}
	}
	// Tasks that were made at one time are driven one behind the other.
	words := fresh(t, three)
	first, second, giving := room.Make(three, 0, true, 0), room.Make(three, 1, false, 1), room.Give(three, 2, 1)
	_, one, words := trial.Drive(t, first, words, nil)
	_, two, words := trial.Drive(t, second, words, nil)
	_, gone, words := trial.Drive(t, giving, words, nil)
	if one != trial.Told(1) || two != trial.Told(2) || gone != trial.Told(1) || words[15] != 3 || words[10] != half || first.Answer() != one {
		t.Error(one, two, gone, words)
	}
}

// Nothing is kept from call to call: between calls that are refused, and calls with other shapes, each one answers the same.
func TestP17_1_NothingIsKept(t *testing.T) {
	from := trial.Source(22)
	wrong := trial.WrongShapes()
	for i := range 300 {
		sh, other := from.Shape(), from.Shape()
		words, others := anyWords(&from, sh), anyWords(&from, other)
		hands, schedule := anyJobs(&from, sh, 4, 5), from.Schedule(30)
		x, a := play(t, sh, words, hands, schedule, 100)
		room.Play(wrong[i*31%len(wrong)], words, hands, schedule, 100)
		room.Play(sh, words[1:], hands, schedule, 100)
		room.Play(sh, words, [][]api.Job{{allocOf(2, 0)}}, schedule, 100)
		play(t, other, others, anyJobs(&from, other, 4, 5), schedule, 50)
		if y, b := play(t, sh, words, hands, schedule, 100); !trial.SameTrace(x, y) || !trial.SameAnswers(a, b) {
			t.Fatalf("%+v: %v %v; was %v %v", sh, y, b, x, a)
		}
	}
}
