package bell_test

import (
	"math"
	"slices"
	"testing"

	"midden/api"
	"midden/bell"
	"midden/trial"
)

func TestP9_1_ErrorsInOrder(t *testing.T) {
	for n := 1; n <= api.MaxHands; n++ {
		bells.HoldRefusals(t, trial.RoomFaults(room(n), api.MaxHands, ring, bell.Ring))
	}
}

// What Free alone refuses, and what comes ahead of it.
func TestP9_1_FreeRefuses(t *testing.T) {
	odd := api.Job{Kind: 2}
	long := slices.Repeat([]api.Job{ring}, api.MaxJobs+1)
	for _, c := range []struct {
		shape api.Shape
		hands [][]api.Job
		want  api.Errno
	}{
		{room(2), nil, api.ErrArg},
		{room(2), [][]api.Job{{}}, api.ErrArg},
		{room(2), rings(1), api.ErrArg},
		{room(2), rings(1, 1, 1), api.ErrArg},
		{room(2), rings(1, 1, 0), api.ErrArg},
		{room(2), make([][]api.Job, 3), api.ErrArg},
		{room(2), rings(0, 1), api.ErrArg},
		{room(2), rings(1, 0), api.ErrArg},
		{room(2), rings(api.MaxJobs, api.MaxJobs-1), api.ErrArg},
		{room(3), rings(2, 2, 1), api.ErrArg},
		{room(3), rings(1, 2, 2), api.ErrArg},
		{room(3), rings(2, 3, 1), api.ErrArg},
		{room(4), rings(2, 1, 2, 3), api.ErrArg},
		{room(1), nil, api.ErrArg},
		{room(1), rings(2, 2), api.ErrArg},
		{room(api.MaxHands), alike(api.MaxHands-1, 3), api.ErrArg},
		{room(2), [][]api.Job{{ring, odd}, {ring}}, api.ErrKind},
		{room(2), [][]api.Job{{ring}, {ring, odd}}, api.ErrKind},
		{room(2), [][]api.Job{{odd}}, api.ErrKind},
		{room(2), [][]api.Job{{ring}, {ring}, {odd}}, api.ErrKind},
		{room(2), [][]api.Job{{ring}, {odd}}, api.ErrKind},
		{room(2), [][]api.Job{{odd}, long}, api.ErrLong},
		{room(2), [][]api.Job{long}, api.ErrLong},
		{room(2), [][]api.Job{long, long}, api.ErrLong},
		{room(2), alike(api.MaxHands+1, 1), api.ErrLong},
		{room(api.MaxHands), append(alike(api.MaxHands, 1), []api.Job{odd}), api.ErrLong},
		{room(0), nil, api.ErrShape},
		{room(api.MaxHands + 1), alike(api.MaxHands+1, 1), api.ErrShape},
		{room(-1), [][]api.Job{long, {odd}}, api.ErrShape},
	} {
		if w, a, e := bell.Free(c.shape, c.hands); w != nil || a != nil || e != c.want {
			t.Errorf("%v, %v: %v %v %v; want %v", c.shape, c.hands, w, a, e, c.want)
		}
	}
	for n := 1; n <= api.MaxHands; n++ {
		for hands := range api.MaxHands + 1 {
			for each := range 3 {
				want := api.OK
				if hands != n {
					want = api.ErrArg
				}
				if _, _, e := bell.Free(room(n), alike(hands, each)); e != want {
					t.Error(n, hands, each, e, want)
				}
			}
		}
	}
}

// Which hand has another number of Rings counts for nothing; Play takes them all.
func TestP9_1_FreeRefusesUnlike(t *testing.T) {
	for n := 2; n <= api.MaxHands; n++ {
		for h := range n {
			for _, other := range []int{0, 2, 4, api.MaxJobs} {
				each := slices.Repeat([]int{3}, n)
				each[h] = other
				if w, a, e := bell.Free(room(n), rings(each...)); w != nil || a != nil || e != api.ErrArg {
					t.Error(each, w, a, e)
				}
				if _, _, e := bell.Play(room(n), make([]uint64, 2), rings(each...), nil, 50); e != api.OK {
					t.Error(each, e)
				}
			}
		}
	}
}

// The fields that a Ring doesn't use are not looked at, and the shape's neither.
func TestP9_1_FieldsNotUsed(t *testing.T) {
	for _, n := range trial.Ends() {
		job := api.Job{Kind: bell.Ring, A: n, B: n, C: n, H: uint64(n)}
		hands := [][]api.Job{{job, job}, {job, job}}
		sh := api.Shape{Objects: n, Slots: n, Hands: n, Roots: n, Weaks: n, Room: 2}
		x, a := bells.HoldRun(t, sh, []uint64{0, 0}, hands, nil, 100)
		if !x.Ended {
			t.Error(n, x)
		}
		holdOneLetsGo(t, a)
		w, a, e := bell.Free(sh, hands)
		if e != api.OK || !slices.Equal(w, []uint64{0, 2}) {
			t.Error(n, w, a, e)
		}
		holdOneLetsGo(t, a)
	}
}

func TestP9_1_NothingToDo(t *testing.T) {
	for n := 1; n <= api.MaxHands; n++ {
		bells.HoldNothingPlayed(t, room(n), []uint64{math.MaxUint64, 1 << 63}, ring)
		bells.HoldNothingFree(t, room(n), make([][]api.Job, n))
		bells.HoldNothingFree(t, room(n), slices.Repeat([][]api.Job{{}}, n))
	}
}

func TestP9_1_LeavesItsArguments(t *testing.T) {
	bells.HoldMemory(t, room(3), []uint64{0, 7}, alike(3, 2), []int{1, 0, -1}, 200)
	bells.HoldMemory(t, room(3), []uint64{1, 7}, alike(3, 2), nil, 20)
	bells.HoldMemory(t, room(1), []uint64{0, math.MaxUint64}, alike(1, 3), []int{0, 0}, 9)
}

// Two tasks of one job stand each for itself.
func TestP9_1_TasksApart(t *testing.T) {
	for schedule := range trial.Lists(2, 10) {
		holdWhole(t, 2, 2, schedule)
	}
}
