package seq_test

import (
	"math"
	"slices"
	"testing"

	"midden/api"
	"midden/seq"
	"midden/trial"
)

func TestP10_1_ErrorsInOrder(t *testing.T) {
	for _, n := range []int{1, 2, api.MaxRoom} {
		seqs.HoldRefusals(t, trial.RoomFaults(room(n), api.MaxRoom, read, seq.Read))
	}
}

// A Write by a hand that isn't 0, and what comes ahead of it: hand by hand, job by job.
func TestP10_1_WritersJobs(t *testing.T) {
	odd := api.Job{Kind: 3}
	none := api.Job{Kind: 0}
	long := slices.Repeat([]api.Job{read}, api.MaxJobs+1)
	for _, c := range []struct {
		shape api.Shape
		hands [][]api.Job
		want  api.Errno
	}{
		{room(2), [][]api.Job{{write(1), read, write(2)}, {read}, {read, read}}, api.OK},
		{room(2), [][]api.Job{nil, {write(1)}}, api.ErrArg},
		{room(2), [][]api.Job{{write(1)}, {read, read, write(1)}}, api.ErrArg},
		{room(2), [][]api.Job{{write(1)}, nil, nil, nil, nil, nil, nil, {read, write(1)}}, api.ErrArg},
		{room(2), [][]api.Job{{write(1)}, {write(1), odd}}, api.ErrArg},
		{room(2), [][]api.Job{{write(1)}, {read, odd, write(1)}}, api.ErrKind},
		{room(2), [][]api.Job{{write(1)}, {write(1)}, {none}}, api.ErrArg},
		{room(2), [][]api.Job{{write(1)}, {none}, {write(1)}}, api.ErrKind},
		{room(2), [][]api.Job{{read, odd}, {write(1)}}, api.ErrKind},
		{room(2), [][]api.Job{nil, {write(1)}, long}, api.ErrLong},
		{room(2), append(slices.Repeat([][]api.Job{{write(1)}}, api.MaxHands), nil), api.ErrLong},
		{room(0), [][]api.Job{nil, {write(1)}}, api.ErrShape},
		{room(api.MaxRoom + 1), [][]api.Job{nil, {write(1)}, long}, api.ErrShape},
	} {
		w, a, e := seq.Free(c.shape, c.hands)
		x, b, f := seq.Play(c.shape, make([]uint64, 3), c.hands, nil, 100)
		if e != c.want || f != c.want {
			t.Errorf("%v: %v, %v; want %v", c.hands, e, f, c.want)
		}
		if c.want != api.OK && (w != nil || a != nil || b != nil || x.Steps != nil || x.Words != nil || x.Ended) {
			t.Errorf("%v: %v %v %v %v", c.hands, w, a, x, b)
		}
	}
	for _, c := range []struct {
		words, most int
		want        api.Errno
	}{{0, 0, api.ErrSize}, {2, -1, api.ErrSize}, {4, 1, api.ErrSize}, {3, api.MaxSteps + 1, api.ErrLong}, {3, -1, api.ErrArg}, {3, 0, api.ErrArg}} {
		if _, _, e := seq.Play(room(2), make([]uint64, c.words), [][]api.Job{nil, {write(1)}}, nil, c.most); e != c.want {
			t.Error(c, e)
		}
	}
}

// The fields that a kind doesn't use are not looked at, H of Read among them, and the shape's neither.
func TestP10_1_FieldsNotUsed(t *testing.T) {
	for _, n := range trial.Ends() {
		sh := api.Shape{Objects: n, Slots: n, Hands: n, Roots: n, Weaks: n, Room: 2}
		hands := [][]api.Job{{
			{Kind: seq.Read, A: n, B: n, C: n, H: math.MaxUint64},
			{Kind: seq.Write, A: n, B: n, C: n, H: 6},
			{Kind: seq.Read, A: n, B: n, C: n, H: 9},
		}, {{Kind: seq.Read, A: n, B: n, C: n, H: 3}}}
		x, a := seqs.HoldRun(t, sh, make([]uint64, 3), hands, nil, 100)
		if !x.Ended || !slices.Equal(a[0], []api.Answer{trial.Told(0), trial.Told(2), trial.Told(6)}) {
			t.Error(n, x, a)
		}
		holdAlong(t, hands, a)
		w, a, e := seq.Free(sh, hands)
		if e != api.OK || !slices.Equal(w, []uint64{2, 6, 6}) {
			t.Error(n, w, a, e)
		}
		holdAlong(t, hands, a)
	}
}

func TestP10_1_NothingToDo(t *testing.T) {
	seqs.HoldNothingToDo(t, room(2), []uint64{math.MaxUint64, 1 << 63, 9}, write(3))
	seqs.HoldNothingToDo(t, room(2), []uint64{4, 1 << 63, 9}, read)
	seqs.HoldNothingToDo(t, room(api.MaxRoom), make([]uint64, 1+api.MaxRoom), read)
}

func TestP10_1_LeavesItsArguments(t *testing.T) {
	hands := [][]api.Job{{write(5), read, write(6)}, {read}, {read, read}}
	seqs.HoldMemory(t, room(2), []uint64{2, 7, 8}, hands, []int{1, 0, -1}, 100)
	seqs.HoldMemory(t, room(2), []uint64{2, 7, 8}, hands, nil, 25)
	seqs.HoldMemory(t, room(3), []uint64{3, 7, 8, 9}, hands, []int{0, 0}, 100)
}

// Two tasks of one job stand each for itself.
func TestP10_1_TasksApart(t *testing.T) {
	for schedule := range trial.Lists(3, 7) {
		holdWhole(t, 1, [][]api.Job{writes(5, 5), {read, read}, {read, read}}, schedule)
	}
}
