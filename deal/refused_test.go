package deal_test

import (
	"math"
	"slices"
	"testing"

	"midden/api"
	"midden/deal"
	"midden/trial"
)

func TestP8_1_ErrorsInOrder(t *testing.T) {
	deals.HoldRefusals(t, trial.RoomFaults(room(2), api.MaxRoom, steal, deal.Steal))
	deals.HoldRefusals(t, trial.RoomFaults(room(api.MaxRoom), api.MaxRoom, steal, deal.Steal))
}

// A Lay or a Draw by a hand that isn't 0, and what comes ahead of it: hand by hand, job by job.
func TestP8_1_OwnersJobs(t *testing.T) {
	odd := api.Job{Kind: 4}
	long := slices.Repeat([]api.Job{steal}, api.MaxJobs+1)
	for _, c := range []struct {
		shape api.Shape
		hands [][]api.Job
		want  api.Errno
	}{
		{room(2), [][]api.Job{{lay(1), draw, steal}, {steal}, {steal, steal}}, api.OK},
		{room(2), [][]api.Job{nil, {lay(1)}}, api.ErrArg},
		{room(2), [][]api.Job{nil, {draw}}, api.ErrArg},
		{room(2), [][]api.Job{{lay(1)}, {steal, steal, draw}}, api.ErrArg},
		{room(2), [][]api.Job{{draw}, nil, nil, nil, nil, nil, nil, {steal, lay(1)}}, api.ErrArg},
		{room(2), [][]api.Job{{lay(1)}, {lay(1), odd}}, api.ErrArg},
		{room(2), [][]api.Job{{lay(1)}, {steal, odd, lay(1)}}, api.ErrKind},
		{room(2), [][]api.Job{{lay(1)}, {draw}, {odd}}, api.ErrArg},
		{room(2), [][]api.Job{{lay(1)}, {odd}, {draw}}, api.ErrKind},
		{room(2), [][]api.Job{{draw, odd}, {draw}}, api.ErrKind},
		{room(2), [][]api.Job{nil, {lay(1)}, long}, api.ErrLong},
		{room(2), append(slices.Repeat([][]api.Job{{draw}}, api.MaxHands), nil), api.ErrLong},
		{room(0), [][]api.Job{nil, {lay(1)}}, api.ErrShape},
		{room(65), [][]api.Job{nil, {draw}, long}, api.ErrShape},
	} {
		w, a, e := deal.Free(c.shape, c.hands)
		x, b, f := deal.Play(c.shape, make([]uint64, 4), c.hands, nil, 100)
		if e != c.want || f != c.want {
			t.Errorf("%v: %v, %v; want %v", c.hands, e, f, c.want)
		}
		if c.want != api.OK && (w != nil || a != nil || b != nil || x.Steps != nil || x.Words != nil || x.Ended) {
			t.Errorf("%v: %v %v %v %v", c.hands, w, a, x, b)
		}
	}
	for _, c := range []struct {
		words, most int
		want        api.Errno
	}{{3, -1, api.ErrSize}, {5, 1, api.ErrSize}, {4, api.MaxSteps + 1, api.ErrLong}, {4, -1, api.ErrArg}, {4, 0, api.ErrArg}} {
		if _, _, e := deal.Play(room(2), make([]uint64, c.words), [][]api.Job{nil, {lay(1)}}, nil, c.most); e != c.want {
			t.Error(c, e)
		}
	}
}

// The fields that a kind doesn't use are not looked at, H of Draw and Steal among them.
func TestP8_1_FieldsNotUsed(t *testing.T) {
	for _, n := range trial.Ends() {
		x, a := deals.HoldRun(t, room(2), fresh(t, 2), [][]api.Job{{
			{Kind: deal.Lay, A: n, B: n, C: n, H: 6},
			{Kind: deal.Lay, A: n, B: n, C: n, H: 7},
			{Kind: deal.Draw, A: n, B: n, C: n, H: math.MaxUint64},
			{Kind: deal.Steal, A: n, B: n, C: n, H: math.MaxUint64},
			{Kind: deal.Draw, A: n, B: n, C: n, H: 9},
			{Kind: deal.Steal, A: n, B: n, C: n, H: 9},
		}}, nil, 100)
		if !x.Ended || !slices.Equal(a[0][2:], []api.Answer{trial.Told(7), trial.Told(6), {}, {}}) {
			t.Error(n, x, a)
		}
	}
}

func TestP8_1_NothingToDo(t *testing.T) {
	deals.HoldNothingToDo(t, room(2), []uint64{1 << 63, math.MaxUint64, 9, 5}, lay(3))
	deals.HoldNothingToDo(t, room(2), []uint64{1 << 63, math.MaxUint64, 9, 5}, draw)
}

func TestP8_1_LeavesItsArguments(t *testing.T) {
	hands := [][]api.Job{{lay(5), draw, lay(6)}, {steal}, {steal, steal}}
	deals.HoldMemory(t, room(2), []uint64{1, 2, 7, 8}, hands, []int{1, 0, -1}, 60)
	deals.HoldMemory(t, room(2), []uint64{1, 2, 7, 8}, hands, nil, 20)
}

// Two tasks of one job stand each for itself.
func TestP8_1_TasksApart(t *testing.T) {
	words := filled(3, 0, 1, 2, 3)
	for schedule := range trial.Lists(2, 10) {
		x, a := deals.HoldRun(t, room(3), words, [][]api.Job{{steal}, {steal, steal}}, schedule, 100)
		got := slices.Concat(a...)
		slices.SortFunc(got, func(a, b api.Answer) int { return int(a.Val) - int(b.Val) })
		if !x.Ended || !slices.Equal(got, []api.Answer{trial.Told(1), trial.Told(2), trial.Told(3)}) {
			t.Fatal(schedule, x, a)
		}
	}
}
