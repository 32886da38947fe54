package tally_test

import (
	"math"
	"testing"

	"midden/api"
	"midden/tally"
	"midden/trial"
)

func TestP5_1_ErrorsInOrder(t *testing.T) {
	faults := trial.RoomFaults(api.Shape{Room: 2}, api.MaxRoom, count(1, 1), tally.Most)
	for _, kind := range trial.NoKinds(tally.Most) {
		faults.Wrong = append(faults.Wrong, trial.Wrong{Job: api.Job{Kind: kind, A: -1}, Errno: api.ErrKind})
	}
	for _, a := range append([]int{2, 3, 4, 1 << 32}, trial.Ends()...) {
		faults.Wrong = append(faults.Wrong, trial.Wrong{Job: count(a, 1), Errno: api.ErrArg}, trial.Wrong{Job: most(a, 0), Errno: api.ErrArg})
	}
	tallies.HoldRefusals(t, faults)
}

// A Sum is taken, whatever its A is.
func TestP5_1_SumWithAnyA(t *testing.T) {
	for _, a := range append([]int{0, 1, 2, 64, 1 << 32}, trial.Ends()...) {
		j := api.Job{Kind: tally.Sum, A: a, B: a, C: a, H: uint64(a)}
		x, told, e := tally.Play(api.Shape{Room: 2}, []uint64{3, 4, 9, 9}, [][]api.Job{{j}}, nil, 9)
		want := api.Trace{Steps: []api.Step{trial.Load(0, 0, 3), trial.Load(0, 1, 4)}, Words: []uint64{3, 4, 9, 9}, Ended: true}
		if e != api.OK || !trial.SameTrace(x, want) || !trial.SameAnswers(told, [][]api.Answer{{{OK: true, Val: 7}}}) {
			t.Error(a, x, told, e)
		}
	}
}

func TestP5_1_NothingToDo(t *testing.T) {
	tallies.HoldNothingToDo(t, api.Shape{Room: 2}, []uint64{0, 1, 2, math.MaxUint64}, sum)
}

func TestP5_1_LeavesItsArguments(t *testing.T) {
	hands := [][]api.Job{{count(0, 5), most(1, 9)}, {most(1, 9)}, {sum, sum}}
	tallies.HoldMemory(t, api.Shape{Room: 2}, []uint64{1, 2, 3, 4}, hands, []int{1, 0}, 30)
}

// Two tasks of one job stand each for itself.
func TestP5_1_TasksApart(t *testing.T) {
	job := most(0, 6)
	hands := [][]api.Job{{job, job}, {job, job}}
	x, a := holdRun(t, []uint64{0, 5}, hands, nil, 20)
	if len(x.Steps) != 7 || !x.Ended || !trial.SameAnswers(a, [][]api.Answer{{trial.Told(6), met(6)}, {met(6), met(6)}}) {
		t.Error(x, a)
	}
}
