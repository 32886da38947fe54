package epoch_test

import (
	"math"
	"slices"
	"testing"

	"midden/api"
	"midden/epoch"
	"midden/trial"
)

// wrongPlaces: what is no place of such a room.
func wrongPlaces(n int) []int { return append([]int{n, n + 1, 1 << 32}, trial.Ends()...) }

func TestP11_1_ErrorsInOrder(t *testing.T) {
	for _, n := range []int{1, 2, api.MaxRoom} {
		for _, fine := range []api.Job{enter, leave, retire(n - 1), reap} {
			f := trial.RoomFaults(room(n), api.MaxRoom, fine, epoch.Reap)
			for _, i := range wrongPlaces(n) {
				f.Wrong = append(f.Wrong, trial.Wrong{Job: retire(i), Errno: api.ErrArg})
			}
			epochs.HoldRefusals(t, f)
		}
	}
}

// The same with jobs whose error is ErrArg ahead of all others: of the shape, of the words, of limits and of most comes
// first, and a kind that is none has no place that could be looked at.
func TestP11_1_WrongPlaces(t *testing.T) {
	odd := api.Job{Kind: 5, A: -1}
	long := slices.Repeat([]api.Job{reap}, api.MaxJobs+1)
	for _, c := range []struct {
		shape api.Shape
		hands [][]api.Job
		want  api.Errno
	}{
		{room(2), [][]api.Job{{retire(0), retire(1)}, {enter, leave, reap}}, api.OK},
		{room(2), [][]api.Job{{retire(2)}}, api.ErrArg},
		{room(2), [][]api.Job{{retire(-1)}, {odd}}, api.ErrArg},
		{room(2), [][]api.Job{{odd}, {retire(-1)}}, api.ErrKind},
		{room(2), [][]api.Job{{retire(0), odd, retire(2)}}, api.ErrKind},
		{room(2), [][]api.Job{{retire(0), retire(2), odd}}, api.ErrArg},
		{room(2), [][]api.Job{nil, {}, nil, nil, nil, nil, nil, {reap, retire(64)}}, api.ErrArg},
		{room(2), [][]api.Job{{retire(2)}, long}, api.ErrLong},
		{room(2), append(slices.Repeat([][]api.Job{{retire(2)}}, api.MaxHands), nil), api.ErrLong},
		{room(0), [][]api.Job{{retire(0)}, long}, api.ErrShape},
		{room(-1), [][]api.Job{{retire(-1)}}, api.ErrShape},
		{room(api.MaxRoom + 1), [][]api.Job{{retire(api.MaxRoom)}}, api.ErrShape},
	} {
		w, a, e := epoch.Free(c.shape, c.hands)
		x, b, f := epoch.Play(c.shape, fresh(2), c.hands, nil, 100)
		if e != c.want || f != c.want {
			t.Errorf("%v: %v, %v; want %v", c.hands, e, f, c.want)
		}
		if c.want != api.OK && (w != nil || a != nil || b != nil || x.Steps != nil || x.Words != nil || x.Ended) {
			t.Errorf("%v: %v %v %v %v", c.hands, w, a, x, b)
		}
	}
	for _, c := range []struct {
		words, most int
		want        api.Errno
	}{{0, 0, api.ErrSize}, {2, 1, api.ErrSize}, {10, -1, api.ErrSize}, {12, 1, api.ErrSize}, {11, api.MaxSteps + 1, api.ErrLong}, {11, -1, api.ErrArg}, {11, 0, api.ErrArg}} {
		if _, _, e := epoch.Play(room(2), make([]uint64, c.words), [][]api.Job{{retire(2)}}, nil, c.most); e != c.want {
			t.Error(c, e)
		}
	}
}

// ErrShape, then ErrKind, then ErrArg, of a hand as of a place; HoldTaskErrors' jobs have a place below 0.
func TestP11_1_TaskErrors(t *testing.T) {
	epochs.HoldTaskErrors(t, api.MaxRoom, epoch.Reap, func(hand, kind int) api.Errno {
		switch {
		case kind < 1 || kind > 4:
			return api.ErrKind
		case kind == epoch.Retire || hand < 0 || hand > 7:
			return api.ErrArg
		}
		return api.OK
	})
	for n := 1; n <= api.MaxRoom; n++ {
		for _, hand := range append([]int{0, 1, 6, 7, 8, 9, 1 << 32}, trial.Ends()...) {
			for kind := epoch.Enter; kind <= epoch.Reap; kind++ {
				for _, i := range append([]int{0, n - 1}, wrongPlaces(n)...) {
					want := api.OK
					if hand < 0 || hand > 7 || kind == epoch.Retire && (i < 0 || i >= n) {
						want = api.ErrArg
					}
					k, e := epoch.Task(room(n), hand, api.Job{Kind: kind, A: i})
					if e != want || (k == nil) != (want != api.OK) {
						t.Fatal(n, hand, kind, i, k, e)
					}
				}
			}
		}
	}
}

// The fields that a kind doesn't use are not looked at, A of all but Retire among them, and the shape's neither.
func TestP11_1_FieldsNotUsed(t *testing.T) {
	for _, n := range append(trial.Ends(), 2, 64) {
		sh := api.Shape{Objects: n, Slots: n, Hands: n, Roots: n, Weaks: n, Room: 2}
		unused := func(kind int) api.Job { return api.Job{Kind: kind, A: n, B: n, C: n, H: math.MaxUint64} }
		last := unused(epoch.Retire)
		last.A = 1
		hands := [][]api.Job{{unused(epoch.Enter), last, unused(epoch.Leave), unused(epoch.Reap), unused(epoch.Reap), unused(epoch.Enter)}}
		want := []api.Answer{trial.Told(0), trial.Told(0), trial.Told(0), trial.Told(0), trial.Told(0b10), trial.Told(2)}
		x, a := epochs.HoldRun(t, sh, fresh(2), hands, nil, 100)
		if !x.Ended || !slices.Equal(a[0], want) {
			t.Error(n, x, a)
		}
		if w, a, e := epoch.Free(sh, hands); e != api.OK || !slices.Equal(w, memory(2, []uint64{3}, 0, 0)) || !slices.Equal(a[0], want) {
			t.Error(n, w, a, e)
		}
		if size, e := epoch.Size(sh); size != 11 || e != api.OK {
			t.Error(n, size, e)
		}
	}
}

func TestP11_1_NothingToDo(t *testing.T) {
	from := trial.Source(9)
	for _, j := range []api.Job{enter, leave, retire(1), reap} {
		epochs.HoldNothingToDo(t, room(2), anyWords(&from, 2), j)
		epochs.HoldNothingToDo(t, room(api.MaxRoom), anyWords(&from, api.MaxRoom), j)
	}
}

func TestP11_1_LeavesItsArguments(t *testing.T) {
	hands := [][]api.Job{{enter, retire(0), leave, reap}, {reap}, {retire(1), leave, retire(0)}}
	words := memory(3, []uint64{0, 4, 0, 4}, 2, 0)
	epochs.HoldMemory(t, room(2), words, hands, []int{1, 0, -1}, 100)
	epochs.HoldMemory(t, room(2), words, hands, nil, 25)
	epochs.HoldMemory(t, room(3), fresh(3), hands, []int{0, 0}, 100)
}

// Two tasks of one job stand each for itself.
func TestP11_1_TasksApart(t *testing.T) {
	for schedule := range trial.Lists(3, 7) {
		holdWhole(t, 1, [][]api.Job{{enter, enter, leave, leave}, {retire(0), retire(0)}, {reap, reap}}, schedule)
	}
}
