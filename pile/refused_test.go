package pile_test

import (
	"math"
	"testing"

	"midden/api"
	"midden/pile"
	"midden/trial"
)

func TestP6_1_ErrorsInOrder(t *testing.T) {
	piles.HoldRefusals(t, trial.RoomFaults(room(2), api.MaxRoom, push(1), pile.Pop))
	piles.HoldRefusals(t, trial.RoomFaults(room(api.MaxRoom), api.MaxRoom, pop, pile.Pop))
}

// The fields that a kind doesn't use are not looked at, Pop's H among them.
func TestP6_1_FieldsNotUsed(t *testing.T) {
	for _, n := range trial.Ends() {
		x, a := piles.HoldRun(t, room(1), []uint64{0, 1, 0, 0}, [][]api.Job{{
			{Kind: pile.Push, A: n, B: n, C: n, H: 6},
			{Kind: pile.Pop, A: n, B: n, C: n, H: math.MaxUint64},
		}}, nil, 100)
		if !x.Ended || a[0][1] != trial.Told(6) {
			t.Error(n, x, a)
		}
	}
}

func TestP6_1_NothingToDo(t *testing.T) {
	piles.HoldNothingToDo(t, room(2), []uint64{tagged(9, 9), tagged(8, 8), math.MaxUint64, 5, 1, 0}, push(3))
}

func TestP6_1_LeavesItsArguments(t *testing.T) {
	hands := [][]api.Job{{push(5), pop}, {push(6)}, {pop, pop}}
	piles.HoldMemory(t, room(2), []uint64{1, 2, 0, 7, 0, 8}, hands, []int{1, 0, -1}, 60)
	piles.HoldMemory(t, room(2), []uint64{1, 2, 0, 7, 0, 8}, hands, nil, 30)
}

// Two tasks of one job stand each for itself.
func TestP6_1_TasksApart(t *testing.T) {
	job := push(6)
	for schedule := range trial.Lists(2, 10) {
		x, _ := piles.HoldRun(t, room(3), fresh(t, 3), [][]api.Job{{job, job}, {job, job}}, schedule, 100)
		if lie := holdPlaces(t, x.Words); !x.Ended || len(lie) != 3 {
			t.Fatal(x)
		}
	}
}
