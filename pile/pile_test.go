package pile_test

import (
	"math"
	"slices"
	"testing"

	"midden/api"
	"midden/pile"
	"midden/trial"
)

// holdSteps: Layer.HoldSteps with as many places as the words are for.
func holdSteps(t *testing.T, words []uint64, hands [][]api.Job, schedule []int, steps []api.Step, answers [][]api.Answer, after []uint64) {
	t.Helper()
	piles.HoldSteps(t, room(len(words)/2-1), words, hands, schedule, steps, answers, after)
}

func TestP6_1_Examples(t *testing.T) {
	x, a, e := pile.Play(room(2), fresh(t, 2), [][]api.Job{{push(7), push(8), push(9), pop, pop, pop}}, nil, 1000)
	want := []api.Answer{trial.Told(1), trial.Told(2), {}, trial.Told(8), trial.Told(7), {}}
	after := []uint64{tagged(0, 4), tagged(1, 4), 2, 7, 0, 8}
	if e != api.OK || !slices.Equal(a[0], want) || !slices.Equal(x.Words, after) || len(x.Steps) != 4*7+2 || !x.Ended {
		t.Errorf("alone: %v %v %v", x, a, e)
	}
	one := []uint64{tagged(1, 1), tagged(2, 1), 0, 4, 0, 0} // Push 4, from fresh ones
	holdSteps(t, one, [][]api.Job{{pop}, {pop}}, []int{0, 1, 0, 1, 0, 1, 1},
		[]api.Step{
			trial.Load(0, top, one[top]), trial.Load(1, top, one[top]), trial.Load(0, 2, 0), trial.Load(1, 2, 0),
			trial.CAS(0, top, one[top], tagged(0, 2)), trial.Lost(1, top, tagged(0, 2)), trial.Load(1, top, tagged(0, 2)),
			trial.Load(0, 3, 4), trial.Load(0, spare, one[spare]), trial.Store(0, 2, 0, 2),
			trial.CAS(0, spare, one[spare], tagged(1, 2)),
		},
		[][]api.Answer{{trial.Told(4)}, {{}}}, []uint64{tagged(0, 2), tagged(1, 2), 2, 4, 0, 0})
	if pile.Push != 1 || pile.Pop != 2 {
		t.Error("the kinds", pile.Push, pile.Pop)
	}
}

// The steps of each kind, with every field, from words that are not fresh: links with more than an index.
func TestP6_1_StepsOfEachKind(t *testing.T) {
	words := []uint64{tagged(2, 7), tagged(3, 9), 0, 10, tagged(1, 6), 20, tagged(1, 4), 30}
	after := []uint64{tagged(3, 8), tagged(1, 10), 0, 10, tagged(1, 6), 20, 2, 5}
	holdSteps(t, words, [][]api.Job{{push(5)}}, nil, []api.Step{
		trial.Load(0, spare, words[spare]), trial.Load(0, 6, words[6]), trial.CAS(0, spare, words[spare], after[spare]),
		trial.Store(0, 7, 30, 5),
		trial.Load(0, top, words[top]), trial.Store(0, 6, words[6], 2), trial.CAS(0, top, words[top], after[top]),
	}, [][]api.Answer{{trial.Told(3)}}, after)
	gone := []uint64{tagged(1, 8), tagged(2, 10), 0, 10, 3, 20, tagged(1, 4), 30}
	holdSteps(t, words, [][]api.Job{{pop}}, nil, []api.Step{
		trial.Load(0, top, words[top]), trial.Load(0, 4, words[4]), trial.CAS(0, top, words[top], gone[top]),
		trial.Load(0, 5, 20),
		trial.Load(0, spare, words[spare]), trial.Store(0, 4, words[4], 3), trial.CAS(0, spare, words[spare], gone[spare]),
	}, [][]api.Answer{{trial.Told(20)}}, gone)
	// A head that has a tag alone shows nothing.
	none := []uint64{tagged(0, 3), tagged(0, 1<<32-1), tagged(1, 1), 6}
	holdSteps(t, none, [][]api.Job{{push(5)}}, nil, []api.Step{trial.Load(0, spare, none[spare])}, [][]api.Answer{{{}}}, none)
	holdSteps(t, none, [][]api.Job{{pop}}, nil, []api.Step{trial.Load(0, top, none[top])}, [][]api.Answer{{{}}}, none)
}

func TestP6_1_ValuesAtBothEnds(t *testing.T) {
	for _, v := range []uint64{0, 1, 1<<32 - 1, 1 << 32, 1 << 63, math.MaxUint64} {
		x, a := piles.HoldRun(t, room(1), []uint64{0, 1, 0, ^v}, [][]api.Job{{push(v), pop, pop}}, nil, 100)
		if !slices.Equal(a[0], []api.Answer{trial.Told(1), trial.Told(v), {}}) || x.Words[value(1)] != v {
			t.Error(v, x, a)
		}
	}
}

// Tags go from their greatest to 0, those of both heads.
func TestP6_1_GreatestTags(t *testing.T) {
	const last = 1<<32 - 1
	words := []uint64{tagged(1, last), tagged(2, last), 0, 4, 0, 0}
	x, a := piles.HoldRun(t, room(2), words, [][]api.Job{{push(8)}}, nil, 100)
	if !slices.Equal(x.Words, []uint64{2, 0, 0, 4, 1, 8}) || a[0][0] != trial.Told(2) {
		t.Error("a push", x, a)
	}
	x, a = piles.HoldRun(t, room(2), words, [][]api.Job{{pop}}, nil, 100)
	if !slices.Equal(x.Words, []uint64{0, 1, 2, 4, 0, 0}) || a[0][0] != trial.Told(4) {
		t.Error("a pop", x, a)
	}
}

// Heads that show an index of no place: its words are reckoned as those of places, and the memory doesn't have them.
func TestP6_1_NoPlace(t *testing.T) {
	for _, i := range []uint64{2, 3, 1<<31 - 1, 1 << 31, 1<<32 - 1} {
		words := []uint64{tagged(i, 5), tagged(1, 3), 0, 77}
		holdSteps(t, words, [][]api.Job{{pop}}, nil, []api.Step{
			trial.Load(0, top, words[top]), trial.Load(0, int(2*i), 0), trial.CAS(0, top, words[top], tagged(0, 6)),
			trial.Load(0, int(2*i+1), 0),
			trial.Load(0, spare, words[spare]), trial.Store(0, int(2*i), 0, 0), trial.CAS(0, spare, words[spare], tagged(i, 4)),
		}, [][]api.Answer{{trial.Told(0)}}, []uint64{tagged(0, 6), tagged(i, 4), 0, 77})
		words = []uint64{tagged(1, 3), tagged(i, 5), 0, 77}
		holdSteps(t, words, [][]api.Job{{push(9)}}, nil, []api.Step{
			trial.Load(0, spare, words[spare]), trial.Load(0, int(2*i), 0), trial.CAS(0, spare, words[spare], tagged(0, 6)),
			trial.Store(0, int(2*i+1), 0, 0),
			trial.Load(0, top, words[top]), trial.Store(0, int(2*i), 0, 0), trial.CAS(0, top, words[top], tagged(i, 4)),
		}, [][]api.Answer{{trial.Told(i)}}, []uint64{tagged(i, 4), tagged(0, 6), 0, 77})
		// A link that shows no place: it becomes the head, and the next job meets it there.
		words = []uint64{tagged(1, 0), tagged(1, 0), tagged(i, 8), 77}
		x, a := piles.HoldRun(t, room(1), words, [][]api.Job{{pop, pop}}, nil, 100)
		if !slices.Equal(a[0], []api.Answer{trial.Told(77), trial.Told(0)}) || x.Words[top] != tagged(0, 2) || x.Words[spare] != tagged(i, 2) {
			t.Error("a pop by a link", x, a)
		}
		x, a = piles.HoldRun(t, room(1), words, [][]api.Job{{push(5), push(6)}}, nil, 100)
		if !slices.Equal(a[0], []api.Answer{trial.Told(1), trial.Told(i)}) || x.Words[spare] != tagged(0, 2) || x.Words[value(1)] != 5 {
			t.Error("a push by a link", x, a)
		}
	}
}

// A place whose link shows itself, and one that lies in both lists: the tables ask nothing of the words.
func TestP6_1_LinksAroundAgain(t *testing.T) {
	words := []uint64{1, 1, 1, 4}
	for _, jobs := range [][]api.Job{{pop, pop, pop}, {push(5), push(6), pop}, {pop, push(7), pop, pop}} {
		for schedule := range trial.Lists(2, 8) {
			piles.HoldRun(t, room(1), words, [][]api.Job{jobs, {pop, push(8)}}, schedule, 60)
		}
	}
}

// A CAS that isn't done, again and again: hand 1 does a whole job between hand 0's load of a head and its CAS.
func TestP6_1_CASNotDone(t *testing.T) {
	for _, c := range []struct {
		name        string
		job         api.Job
		ahead, head int // how many steps hand 0 makes ahead of the load, and whose load it is
		want        api.Answer
	}{
		{"spare, by Push", push(5), 0, spare, trial.Told(2)},
		{"top, by Push", push(5), 4, top, trial.Told(2)},
		{"top, by Pop", pop, 0, top, trial.Told(4)},
		{"spare, by Pop", pop, 4, spare, trial.Told(4)},
	} {
		for _, times := range []int{0, 2, 4, 20} {
			hands := [][]api.Job{{c.job}, nil}
			schedule := make([]int, c.ahead)
			for i := range times {
				hands[1] = append(hands[1], []api.Job{push(6), pop}[i%2])
				schedule = append(schedule, 0, 1, 1, 1, 1, 1, 1, 1, 0, 0)
			}
			words := []uint64{tagged(1, 1), tagged(2, 1), 0, 4, 3, 0, 0, 0}
			x, a := piles.HoldRun(t, room(3), words, hands, schedule, 1000)
			if !x.Ended || trial.CountLost(x, 0, c.head) != times || len(x.Steps) != 7+3*times+7*times || a[0][0] != c.want {
				t.Error(c.name, times, x, a)
			}
		}
	}
}

// Heads that went and came again, with the same index but another tag; what lies below them is another place now.
func TestP6_1_HeadsThatCameAgain(t *testing.T) {
	words := []uint64{tagged(1, 2), tagged(3, 2), 2, 4, 0, 5, 4, 0, 0, 0} // 4 lies on 5; places 3 and 4 are free
	sleeps := append([]int{0, 0}, slices.Repeat([]int{1}, 21)...)
	x, a := piles.HoldRun(t, room(4), words, [][]api.Job{{pop}, {pop, pop, push(6), push(7)}}, append(sleeps, 1, 1, 1, 1, 1, 1, 1), 100)
	if a[1][3] != trial.Told(1) || trial.CountLost(x, 0, top) != 1 || a[0][0] != trial.Told(7) {
		t.Error("top", x, a)
	}
	// The same place on top, but nothing below it: a CAS without tags would show place 2 again.
	x, a = piles.HoldRun(t, room(4), words, [][]api.Job{{pop}, {pop, pop, push(6)}}, sleeps, 100)
	if index(x.Steps[2+21-1].Put) != 2 || trial.CountLost(x, 0, top) != 1 || a[0][0] != trial.Told(6) || index(x.Words[top]) != 0 {
		t.Error("another place on top", x, a)
	}
	x, a = piles.HoldRun(t, room(4), words, [][]api.Job{{push(8)}, {push(6), pop}}, sleeps[:2+14], 100)
	if trial.CountLost(x, 0, spare) != 1 || !slices.Equal(a[1], []api.Answer{trial.Told(3), trial.Told(6)}) || a[0][0] != trial.Told(3) {
		t.Error("spare", x, a)
	}
}

func TestP6_1_SizeAndFresh(t *testing.T) {
	piles.HoldFresh(t, api.MaxRoom, func(n int) []uint64 {
		want := []uint64{0, 1}
		for i := 1; i < n; i++ {
			want = append(want, uint64(i+1), 0)
		}
		return append(want, 0, 0)
	})
}

// ErrShape, then ErrArg of the hand, then ErrKind.
func TestP6_1_TaskErrors(t *testing.T) {
	piles.HoldTaskErrors(t, api.MaxRoom, pile.Pop, func(hand, kind int) api.Errno {
		switch {
		case hand < 0 || hand >= api.MaxHands:
			return api.ErrArg
		case kind != pile.Push && kind != pile.Pop:
			return api.ErrKind
		}
		return api.OK
	})
}

// A task alone, on memories by hand: shorter than the pile's, longer, and none at all.
func TestP6_1_TaskAlone(t *testing.T) {
	from := trial.Source(1)
	for _, hand := range []int{0, 3, api.MaxHands - 1} {
		for _, j := range []api.Job{push(9), pop} {
			piles.HoldTask(t, room(2), hand, j, nil, 30)
			for range 100 {
				words := append(anyWords(&from, 2), anyWords(&from, 2)...)
				piles.HoldTask(t, room(2), hand, j, words[:from.Below(len(words)+1)], 30)
			}
		}
	}
}

func TestP6_1_AnyWordsByModel(t *testing.T) {
	from := trial.Source(2)
	for range 4000 {
		n := 1 + from.Below(4)
		hands := anyJobs(&from, from.Below(api.MaxHands+1), 5)
		piles.HoldRun(t, room(n), anyWords(&from, n), hands, from.Schedule(from.Below(80)), from.Below(160))
	}
}

// by tells the jobs of these kinds (0: Push), each Push with another value.
func by(kinds []int, first uint64) []api.Job {
	var out []api.Job
	for i, k := range kinds {
		if k == 1 {
			out = append(out, pop)
		} else {
			out = append(out, push(first+uint64(i)))
		}
	}
	return out
}

// Push and Pop in every order by one hand, against a list.
func TestP6_1_EveryOrder(t *testing.T) {
	for n := 1; n <= 3; n++ {
		for kinds := range trial.Lists(2, 7) {
			jobs := by(kinds, 10)
			var lies, want []api.Answer // by which place, and with which value
			var free []uint64
			for i := range n {
				free = append(free, uint64(n-i))
			}
			places := []uint64{}
			for _, j := range jobs {
				switch {
				case j.Kind == pile.Push && len(free) > 0:
					i := free[len(free)-1]
					free, places = free[:len(free)-1], append(places, i)
					lies, want = append(lies, trial.Told(j.H)), append(want, trial.Told(i))
				case j.Kind == pile.Pop && len(lies) > 0:
					want = append(want, lies[len(lies)-1])
					free = append(free, places[len(places)-1])
					lies, places = lies[:len(lies)-1], places[:len(places)-1]
				default:
					want = append(want, api.Answer{})
				}
			}
			_, a, e := pile.Play(room(n), fresh(t, n), [][]api.Job{jobs}, nil, 100)
			if e != api.OK || !slices.Equal(a[0], want) {
				t.Fatal(n, jobs, a, e, want)
			}
			holdWhole(t, n, [][]api.Job{jobs}, nil)
		}
	}
}

// most in the middle of a task: what it has done so far stands in the words, and no answer is told.
func TestP6_1_MostInTheMiddle(t *testing.T) {
	hands := [][]api.Job{nil, {push(5), pop}, {}}
	words := []uint64{0, 1, 0, 9}
	for most, want := range [][]uint64{
		{0, 1, 0, 9}, {0, 1, 0, 9}, {0, 1, 0, 9},
		{0, tagged(0, 1), 0, 9}, {0, tagged(0, 1), 0, 5}, {0, tagged(0, 1), 0, 5}, {0, tagged(0, 1), 0, 5},
		{tagged(1, 1), tagged(0, 1), 0, 5}, {tagged(1, 1), tagged(0, 1), 0, 5}, {tagged(1, 1), tagged(0, 1), 0, 5},
		{tagged(0, 2), tagged(0, 1), 0, 5}, {tagged(0, 2), tagged(0, 1), 0, 5}, {tagged(0, 2), tagged(0, 1), 0, 5}, {tagged(0, 2), tagged(0, 1), 0, 5},
		{tagged(0, 2), tagged(1, 2), 0, 5}, {tagged(0, 2), tagged(1, 2), 0, 5},
	} {
		told := []api.Answer{trial.Told(1), trial.Told(5)}[:min(2, most/7)]
		x, a := piles.HoldRun(t, room(1), words, hands, []int{4}, most)
		if len(x.Steps) != min(most, 14) || x.Ended != (most >= 14) || !slices.Equal(x.Words, want) || !trial.SameAnswers(a, [][]api.Answer{nil, told, nil}) {
			t.Error(most, x, a)
		}
	}
	from := trial.Source(3)
	for most := range 120 {
		piles.HoldRun(t, room(2), fresh(t, 2), [][]api.Job{{push(1), pop, push(2)}, {pop, push(3)}, nil, {push(4), pop}}, from.Schedule(40), most)
	}
}

// Schedules that are empty, shorter than the run, just as long, and longer.
func TestP6_1_Schedules(t *testing.T) {
	hands := [][]api.Job{{push(1), pop, push(2)}, nil, {pop, push(3)}, {push(4), pop}}
	from := trial.Source(4)
	long := from.Schedule(120)
	for n := range len(long) {
		holdWhole(t, 2, hands, long[:n])
	}
}

// At the limits: the greatest room, 8 hands with 256 jobs each, a schedule and most of 65536.
func TestP6_1_AtTheLimits(t *testing.T) {
	from := trial.Source(5)
	hands := make([][]api.Job, api.MaxHands)
	for h := range hands {
		for range api.MaxJobs {
			hands[h] = append(hands[h], api.Job{Kind: pile.Push + from.Below(2), H: from.Value()})
		}
	}
	holdWhole(t, api.MaxRoom, hands, from.Schedule(api.MaxSteps))
	holdFree(t, api.MaxRoom, hands)
}

// The last place of the greatest room is laid on, and taken.
func TestP6_1_GreatestRoom(t *testing.T) {
	jobs := append(slices.Repeat([]api.Job{push(3)}, api.MaxRoom-1), push(4), push(5), pop)
	x, a := piles.HoldRun(t, room(api.MaxRoom), fresh(t, api.MaxRoom), [][]api.Job{jobs}, nil, api.MaxSteps)
	if a[0][api.MaxRoom-1] != trial.Told(api.MaxRoom) || a[0][api.MaxRoom].OK || a[0][api.MaxRoom+1] != trial.Told(4) || x.Words[2*api.MaxRoom+1] != 4 {
		t.Error(x.Words, a)
	}
}
