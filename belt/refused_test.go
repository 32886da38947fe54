package belt_test

import (
	"math"
	"testing"

	"midden/api"
	"midden/belt"
	"midden/trial"
)

func TestP7_1_ErrorsInOrder(t *testing.T) {
	belts.HoldRefusals(t, trial.RoomFaults(room(2), api.MaxRoom, give(1), belt.Fetch))
	belts.HoldRefusals(t, trial.RoomFaults(room(api.MaxRoom), api.MaxRoom, fetch, belt.Fetch))
}

// The fields that a kind doesn't use are not looked at, Fetch's H among them.
func TestP7_1_FieldsNotUsed(t *testing.T) {
	for _, n := range trial.Ends() {
		x, a := belts.HoldRun(t, room(1), []uint64{0, 0, 0, 0}, [][]api.Job{{
			{Kind: belt.Give, A: n, B: n, C: n, H: 6},
			{Kind: belt.Fetch, A: n, B: n, C: n, H: math.MaxUint64},
		}}, nil, 100)
		if !x.Ended || a[0][1] != trial.Told(6) {
			t.Error(n, x, a)
		}
	}
}

func TestP7_1_NothingToDo(t *testing.T) {
	belts.HoldNothingToDo(t, room(2), []uint64{1 << 63, math.MaxUint64, 9, 5, 1, 0}, give(3))
}

func TestP7_1_LeavesItsArguments(t *testing.T) {
	hands := [][]api.Job{{give(5), fetch}, {give(6)}, {fetch, fetch}}
	belts.HoldMemory(t, room(2), []uint64{1, 0, 1, 2, 7, 8}, hands, []int{1, 0, -1}, 60)
	belts.HoldMemory(t, room(2), []uint64{1, 0, 1, 2, 7, 8}, hands, nil, 30)
}

// Two tasks of one job stand each for itself.
func TestP7_1_TasksApart(t *testing.T) {
	job := give(6)
	for schedule := range trial.Lists(2, 10) {
		x, _ := belts.HoldRun(t, room(3), fresh(t, 3), [][]api.Job{{job, job}, {job, job}}, schedule, 100)
		if stand := holdStanding(t, x.Words); !x.Ended || len(stand) != 3 {
			t.Fatal(x)
		}
	}
}
