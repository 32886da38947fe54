package shade_test

import (
	"math"
	"slices"
	"testing"

	"midden/api"
	"midden/shade"
	"midden/shape"
	"midden/trial"
)

// wrongColours: what a job refuses.
func wrongColours() []int {
	return append([]int{2, 3, -3, 1 << 32, 1<<32 + 1, 1 << 62}, trial.Ends()...)
}

func TestP16_1_ErrorsInOrder(t *testing.T) {
	for _, sh := range trial.RightShapes() {
		for _, fine := range []api.Job{mark(1, 1), mark(math.MaxUint64, 0), next, {Kind: shade.Next, C: 7}} {
			f := trial.HeapFaults(sh, fine, shade.Next)
			for _, colour := range wrongColours() {
				f.Wrong = append(f.Wrong, trial.Wrong{Job: mark(1, colour), Errno: api.ErrArg})
			}
			shades.HoldRefusals(t, f)
		}
	}
}

// The same with jobs whose error is ErrArg: of the shape, of the words, of limits and of most comes ahead of it; a job's error
// is that of the first one, hand by hand and job by job.
func TestP16_1_WrongColours(t *testing.T) {
	odd := api.Job{Kind: 3, C: 2}
	long := slices.Repeat([]api.Job{next}, api.MaxJobs+1)
	words := memory(three, 0)
	for _, c := range []struct {
		name     string
		shape    api.Shape
		words    []uint64
		hands    [][]api.Job
		schedule []int
		most     int
		want     api.Errno
	}{
		{"fine", three, words, [][]api.Job{{mark(1, 0), mark(1, 1)}, {next, {Kind: shade.Next, C: 2}}}, nil, 9, api.OK},
		{"a colour", three, words, [][]api.Job{{mark(1, 2)}}, nil, 9, api.ErrArg},
		{"a colour, and no steps", three, words, [][]api.Job{{mark(1, -1)}}, nil, 0, api.ErrArg},
		{"a colour of a handle that shows nothing", three, words, [][]api.Job{{mark(0, 2)}}, nil, 9, api.ErrArg},
		{"a colour, then a kind", three, words, [][]api.Job{{mark(1, 2)}, {odd}}, nil, 9, api.ErrArg},
		{"a kind, then a colour", three, words, [][]api.Job{{odd}, {mark(1, 2)}}, nil, 9, api.ErrKind},
		{"a kind amid", three, words, [][]api.Job{{mark(1, 0), odd, mark(1, 2)}}, nil, 9, api.ErrKind},
		{"a colour amid", three, words, [][]api.Job{{mark(1, 0), mark(1, 2), odd}}, nil, 9, api.ErrArg},
		{"the last hand's last job", three, words, [][]api.Job{nil, {}, nil, nil, nil, nil, {next}, {next, mark(1, 2)}}, nil, 9, api.ErrArg},
		{"most below 0", three, words, [][]api.Job{{odd}}, nil, -1, api.ErrArg},
		{"most", three, words, [][]api.Job{{mark(1, 2)}}, nil, api.MaxSteps + 1, api.ErrLong},
		{"a schedule", three, words, [][]api.Job{{mark(1, 2)}}, make([]int, api.MaxSteps+1), -1, api.ErrLong},
		{"jobs", three, words, [][]api.Job{{mark(1, 2)}, long}, nil, -1, api.ErrLong},
		{"hands", three, words, append(slices.Repeat([][]api.Job{{mark(1, 2)}}, api.MaxHands), nil), nil, -1, api.ErrLong},
		{"a word too few", three, words[1:], [][]api.Job{{mark(1, 2)}, long}, nil, -1, api.ErrSize},
		{"no words", three, nil, [][]api.Job{{mark(1, 2)}, long}, nil, -1, api.ErrSize},
		{"words of another shape", one, words, [][]api.Job{{mark(1, 2)}}, nil, 9, api.ErrSize},
		{"as many words as no memory has", three, make([]uint64, api.MaxWords+1), [][]api.Job{{mark(1, 2)}}, nil, 9, api.ErrSize},
		{"no shape", api.Shape{Room: 5}, nil, [][]api.Job{{mark(1, 2)}, long}, nil, -1, api.ErrShape},
	} {
		x, a, e := shade.Play(c.shape, c.words, c.hands, c.schedule, c.most)
		if e != c.want || e != api.OK && (a != nil || x.Steps != nil || x.Words != nil || x.Ended) {
			t.Errorf("%s: %v %v %v; want %v", c.name, x, a, e, c.want)
		}
	}
}

// The fields that a kind doesn't use are not looked at, C and H of Next among them, and the shape's Room neither; and there may
// be more hands than the shape has.
func TestP16_1_FieldsNotUsed(t *testing.T) {
	for _, n := range append(trial.Ends(), 2, 64) {
		sh := three
		sh.Room = n
		words := memory(sh, 0, cell{1, 0}, cell{1, 0}, cell{1, 0})
		hands := make([][]api.Job, api.MaxHands)
		hands[7] = []api.Job{
			{Kind: shade.Shade, A: n, B: n, C: 1, H: 3},
			{Kind: shade.Next, A: n, B: n, C: n, H: math.MaxUint64},
			{Kind: shade.Next, A: n, B: n, C: n, H: math.MaxUint64},
		}
		x, a := play(t, sh, words, hands, nil, 100)
		if !x.Ended || !slices.Equal(a[7], []api.Answer{trial.Told(3), trial.Told(3), {}}) || x.Steps[0].Hand != 7 {
			t.Error(n, x, a)
		}
	}
}

func TestP16_1_NothingToDo(t *testing.T) {
	from := trial.Source(21)
	for _, sh := range trial.RightShapes() {
		for _, fine := range []api.Job{mark(1, 1), next} {
			shades.HoldNothingPlayed(t, sh, anyWords(&from, sh), fine)
		}
	}
}

func TestP16_1_LeavesItsArguments(t *testing.T) {
	hands := [][]api.Job{{mark(1, 1), next}, {mark(1, 1), mark(9, 1)}, {next, mark(2, 1)}}
	words := memory(three, tagged(3, 1), cell{1, 9}, cell{1, 9}, cell{3, 0})
	shades.HoldMemory(t, three, words, hands, []int{1, 0, -1}, 100)
	shades.HoldMemory(t, three, words, hands, nil, 12)
	shades.HoldMemory(t, three, words, [][]api.Job{{mark(0, 1)}, {next}}, []int{0}, 100)
}

// Two tasks of one job, and of one hand, stand each for itself.
func TestP16_1_TasksApart(t *testing.T) {
	words := memory(three, 0, cell{1, 9}, cell{1, 9}, cell{1, 9})
	for schedule := range trial.Lists(2, 10) {
		_, a := holdWhole(t, three, words, 1, [][]api.Job{{mark(2, 1), mark(2, 1), next}, {mark(2, 1), mark(2, 1), next}}, schedule)
		won := 0
		for _, told := range slices.Concat(a[0][:2], a[1][:2]) {
			if told.OK {
				won++
			}
		}
		if won != 1 {
			t.Fatal(schedule, a)
		}
	}
}

// Nothing is kept from call to call: between calls that are refused, and calls with other shapes, each one answers the same.
func TestP16_1_NothingIsKept(t *testing.T) {
	from := trial.Source(22)
	wrong := trial.WrongShapes()
	for i := range 300 {
		sh, other := from.Shape(), from.Shape()
		words, others := anyWords(&from, sh), anyWords(&from, other)
		hands, schedule := anyJobs(&from, sh, words, both, 4, 5), from.Schedule(30)
		x, a := play(t, sh, words, hands, schedule, 100)
		shade.Play(wrong[i*31%len(wrong)], words, hands, schedule, 100)
		shade.Play(sh, words[1:], hands, schedule, 100)
		shade.Play(sh, words, [][]api.Job{{mark(1, 2)}}, schedule, 100)
		play(t, other, others, anyJobs(&from, other, others, both, 4, 5), schedule, 50)
		if y, b := play(t, sh, words, hands, schedule, 100); !trial.SameTrace(x, y) || !trial.SameAnswers(a, b) {
			t.Fatalf("%+v: %v %v; was %v %v", sh, y, b, x, a)
		}
	}
}

// A shape that is none promises nothing of Mark and Pull, but they end and don't panic.
func TestP1_NoShape(t *testing.T) {
	words, _ := shape.Fresh(three)
	for _, sh := range trial.WrongShapes() {
		for _, colour := range []int{math.MinInt, 0, 1, math.MaxInt} {
			trial.Drive(t, shade.Mark(sh, -1, 1, colour), words, nil)
			trial.Drive(t, shade.Mark(sh, -1, math.MaxUint64, colour), words, nil)
		}
		trial.Drive(t, shade.Pull(sh, 0), with(words, api.Grey, 2), nil)
		trial.Drive(t, shade.Pull(sh, 0), nil, nil)
	}
}
