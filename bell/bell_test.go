package bell_test

import (
	"math"
	"slices"
	"testing"

	"midden/api"
	"midden/bell"
	"midden/trial"
)

func TestP9_1_Examples(t *testing.T) {
	bells.HoldSteps(t, room(2), []uint64{0, 0}, alike(2, 1), []int{0, 0, 0, 0, 1, 1, 1, 1, 0}, []api.Step{
		trial.Load(0, round, 0), trial.Add(0, here, 0, 1), trial.Load(0, round, 0), trial.Load(0, round, 0),
		trial.Load(1, round, 0), trial.Add(1, here, 1, 2), trial.Store(1, here, 2, 0), trial.Store(1, round, 0, 1),
		trial.Load(0, round, 1),
	}, [][]api.Answer{{let(0)}, {trial.Told(0)}}, []uint64{0, 1})
	x, a, e := bell.Play(room(1), []uint64{0, 0}, alike(1, 3), nil, 100)
	if e != api.OK || len(x.Steps) != 12 || !slices.Equal(a[0], []api.Answer{trial.Told(0), trial.Told(1), trial.Told(2)}) {
		t.Errorf("alone: %v %v %v", x, a, e)
	}
	if w, a, e := bell.Free(room(2), rings(1, 2)); w != nil || a != nil || e != api.ErrArg {
		t.Errorf("one and two: %v %v %v", w, a, e)
	}
	if bell.Ring != 1 {
		t.Error("the kind", bell.Ring)
	}
}

// The steps of who rings last, and of who waits, with every field, from rounds at both ends on.
func TestP9_1_StepsOfEachWay(t *testing.T) {
	for _, g := range ends {
		for n := uint64(1); n <= api.MaxHands; n++ {
			for h := range api.MaxHands {
				hands, answers := make([][]api.Job, h+1), make([][]api.Answer, h+1)
				hands[h], answers[h] = []api.Job{ring}, []api.Answer{trial.Told(g)}
				bells.HoldSteps(t, room(int(n)), []uint64{n - 1, g}, hands, nil, []api.Step{
					trial.Load(h, round, g), trial.Add(h, here, n-1, n), trial.Store(h, here, n, 0), trial.Store(h, round, g, g+1),
				}, answers, []uint64{0, g + 1})
			}
			if n < 2 {
				continue
			}
			bells.HoldSteps(t, room(int(n)), []uint64{n - 2, g}, alike(2, 1), []int{0, 0, 0, 1, 1, 0, 1, 0, 1, 0}, []api.Step{
				trial.Load(0, round, g), trial.Add(0, here, n-2, n-1), trial.Load(0, round, g),
				trial.Load(1, round, g), trial.Add(1, here, n-1, n), trial.Load(0, round, g),
				trial.Store(1, here, n, 0), trial.Load(0, round, g),
				trial.Store(1, round, g, g+1), trial.Load(0, round, g+1),
			}, [][]api.Answer{{let(g)}, {trial.Told(g)}}, []uint64{0, g + 1})
		}
	}
}

// here just below 2^64: it takes some Rings to come to 0, and Room more.
func TestP9_1_HereAroundTheEnd(t *testing.T) {
	bells.HoldSteps(t, room(1), []uint64{math.MaxUint64, math.MaxUint64}, alike(2, 1), []int{0, 0, 0, 1, 1, 1, 1, 0}, []api.Step{
		trial.Load(0, round, math.MaxUint64), trial.Add(0, here, math.MaxUint64, 0), trial.Load(0, round, math.MaxUint64),
		trial.Load(1, round, math.MaxUint64), trial.Add(1, here, 0, 1), trial.Store(1, here, 1, 0), trial.Store(1, round, math.MaxUint64, 0),
		trial.Load(0, round, 0),
	}, [][]api.Answer{{let(math.MaxUint64)}, {trial.Told(math.MaxUint64)}}, []uint64{0, 0})
	for n := 1; n <= api.MaxHands; n++ {
		for below := 0; n+below <= api.MaxHands; below++ {
			last := n + below - 1
			for _, g := range ends {
				x, a := bells.HoldRun(t, room(n), []uint64{-uint64(below), g}, alike(last+1, 1), nil, 1000)
				if !x.Ended || !slices.Equal(x.Words, []uint64{0, g + 1}) {
					t.Fatal(n, below, x)
				}
				for h := range a {
					if a[h][0] != (api.Answer{OK: h == last, Val: g}) {
						t.Error(n, below, g, h, a)
					}
				}
			}
		}
	}
}

// here is Room already, or past it: nobody lets go.
func TestP9_1_HerePastRoom(t *testing.T) {
	from := trial.Source(1)
	for n := 1; n <= api.MaxHands; n++ {
		r := uint64(n)
		for _, c := range []uint64{r, r + 1, 2 * r, 1 << 32, 1<<32 + r - 1, 1 << 63, 1<<63 + r - 1, math.MaxUint64 - 8} {
			for _, hands := range []int{1, n, api.MaxHands} {
				x, a := bells.HoldRun(t, room(n), []uint64{c, 5}, alike(hands, 2), from.Schedule(40), 200)
				if x.Ended || len(x.Steps) != 200 || !slices.Equal(x.Words, []uint64{c + uint64(hands), 5}) || len(slices.Concat(a...)) != 0 {
					t.Error(n, c, hands, x.Words, a)
				}
			}
		}
	}
}

// A hand loads round again and again, until another one has let it go.
func TestP9_1_LoadsAgainAndAgain(t *testing.T) {
	for _, times := range []int{0, 1, 2, 5, 300} {
		schedule := slices.Concat(make([]int, 2+times), []int{1, 1, 1, 1})
		x, a := bells.HoldRun(t, room(2), []uint64{0, 9}, alike(2, 1), schedule, 1000)
		loads := 0
		for _, s := range x.Steps[2:] {
			if s == trial.Load(0, round, 9) {
				loads++
			}
		}
		if !x.Ended || loads != times || len(x.Steps) != 7+times || a[0][0] != let(9) || a[1][0] != trial.Told(9) {
			t.Error(times, x, a)
		}
	}
	x, a, e := bell.Play(room(2), []uint64{0, 9}, alike(1, 1), nil, api.MaxSteps)
	if e != api.OK || x.Ended || len(x.Steps) != api.MaxSteps || len(a[0]) != 0 || !slices.Equal(x.Words, []uint64{1, 9}) {
		t.Fatal("alone of two", len(x.Steps), x.Words, a, e)
	}
	for i, s := range x.Steps[2:] {
		if s != trial.Load(0, round, 9) {
			t.Fatal(i+2, s)
		}
	}
}

// A hand that is away while more than one round goes by: any other one lets it go.
func TestP9_1_RoundsPassBy(t *testing.T) {
	for _, g := range ends {
		schedule := []int{0, 0, 1, 1, 1, 1}
		for range 3 {
			schedule = append(schedule, 1, 1, 2, 2, 2, 2, 1)
		}
		x, a := bells.HoldRun(t, room(2), []uint64{0, g}, rings(1, 4, 3), schedule, 1000)
		want := [][]api.Answer{{let(g)}, {trial.Told(g), let(g + 1), let(g + 2), let(g + 3)}, {trial.Told(g + 1), trial.Told(g + 2), trial.Told(g + 3)}}
		if !x.Ended || x.Steps[len(x.Steps)-1] != trial.Load(0, round, g+4) || !trial.SameAnswers(a, want) {
			t.Error(g, x, a)
		}
	}
}

// One more than Room rings while the last one is about to let go.
func TestP9_1_OneMoreAmidLettingGo(t *testing.T) {
	// Its add comes ahead of the wiping: it is wiped with the others'.
	bells.HoldSteps(t, room(1), []uint64{0, 4}, rings(1, 1), []int{0, 1, 0, 1, 1, 0, 1, 0}, []api.Step{
		trial.Load(0, round, 4), trial.Load(1, round, 4), trial.Add(0, here, 0, 1), trial.Add(1, here, 1, 2), trial.Load(1, round, 4),
		trial.Store(0, here, 2, 0), trial.Load(1, round, 4), trial.Store(0, round, 4, 5), trial.Load(1, round, 5),
	}, [][]api.Answer{{trial.Told(4)}, {let(4)}}, []uint64{0, 5})
	// Its add comes behind the wiping: the round is over already, and the Ring counts in the next one.
	bells.HoldSteps(t, room(2), []uint64{0, 4}, rings(1, 1, 1), []int{0, 0, 1, 1, 1, 2, 1, 0, 0, 0}, []api.Step{
		trial.Load(0, round, 4), trial.Add(0, here, 0, 1), trial.Load(1, round, 4), trial.Add(1, here, 1, 2), trial.Store(1, here, 2, 0),
		trial.Load(2, round, 4), trial.Store(1, round, 4, 5), trial.Load(0, round, 5), trial.Add(2, here, 0, 1), trial.Load(2, round, 5),
	}, [][]api.Answer{{let(4)}, {trial.Told(4)}, {let(4)}}, []uint64{1, 5})
}

// Fewer hands than Room: all wait. More: as the table has it.
func TestP9_1_FewerAndMoreHands(t *testing.T) {
	from := trial.Source(2)
	for n := 1; n <= api.MaxHands; n++ {
		for hands := range api.MaxHands + 1 {
			for range 10 {
				x, a := bells.HoldRun(t, room(n), []uint64{0, 3}, alike(hands, 1), from.Schedule(from.Below(100)), 300)
				if hands > 0 && hands < n && (x.Ended || x.Words[here] != uint64(hands) || x.Words[round] != 3 || len(slices.Concat(a...)) != 0) {
					t.Error(n, hands, x.Words, a)
				}
				if hands == n && !x.Ended {
					t.Error(n, x.Words, a)
				}
				bells.HoldRun(t, room(n), []uint64{0, 3}, anyJobs(&from, hands, 4), from.Schedule(from.Below(100)), 300)
			}
		}
	}
	holdLast := func(x api.Trace, a [][]api.Answer, words []uint64, ended []int) {
		t.Helper()
		for h := range a {
			if len(a[h]) != ended[h] {
				t.Error(h, a)
			}
		}
		if x.Ended || !slices.Equal(x.Words, words) {
			t.Error(x.Words)
		}
	}
	x, a := bells.HoldRun(t, room(2), []uint64{0, 0}, rings(1, 3), nil, 200)
	holdLast(x, a, []uint64{1, 1}, []int{1, 1})
	x, a = bells.HoldRun(t, room(3), []uint64{0, 0}, rings(4, 2, 3), nil, 200)
	holdLast(x, a, []uint64{2, 2}, []int{2, 2, 2})
	x, a = bells.HoldRun(t, room(3), []uint64{0, 0}, rings(2, 0, 2), nil, 200)
	holdLast(x, a, []uint64{2, 0}, []int{0, 0, 0})
}

// Rings of hands in every order of their steps, from words that are not fresh, with fewer and more hands than Room.
func TestP9_1_EveryOrder(t *testing.T) {
	for n := 1; n <= 4; n++ {
		for _, hands := range [][][]api.Job{rings(1), rings(2), rings(1, 1), rings(2, 1), rings(2, 2), rings(1, 1, 1), rings(2, 1, 1)} {
			for _, words := range [][]uint64{{0, 0}, {1, math.MaxUint64}, {2, 7}, {math.MaxUint64, 1 << 63}} {
				everyOrder(t, room(n), words, hands, func(schedule []int) {
					bells.HoldRun(t, room(n), words, hands, schedule, len(schedule))
				})
			}
		}
	}
}

func TestP9_1_SizeAndFresh(t *testing.T) {
	bells.HoldFresh(t, api.MaxHands, func(int) []uint64 { return []uint64{0, 0} })
}

// ErrShape, then ErrArg, then ErrKind.
func TestP9_1_TaskErrors(t *testing.T) {
	bells.HoldTaskErrors(t, api.MaxHands, bell.Ring, func(hand, kind int) api.Errno {
		switch {
		case hand < 0 || hand >= api.MaxHands:
			return api.ErrArg
		case kind != bell.Ring:
			return api.ErrKind
		}
		return api.OK
	})
	for n := 1; n <= api.MaxHands; n++ {
		for hand := range api.MaxHands {
			if k, e := bell.Task(room(n), hand, ring); k == nil || e != api.OK {
				t.Error(n, hand, k, e)
			}
		}
	}
}

// A task alone on memories by hand: shorter than the bell's, longer, and none at all.
func TestP9_1_TaskAlone(t *testing.T) {
	from := trial.Source(3)
	for _, hand := range []int{0, 3, api.MaxHands - 1} {
		for n := 1; n <= api.MaxHands; n++ {
			bells.HoldTask(t, room(n), hand, ring, nil, 20)
			bells.HoldTask(t, room(n), hand, ring, []uint64{}, 20)
			bells.HoldTask(t, room(n), hand, ring, []uint64{uint64(n) - 1}, 20)
			for range 50 {
				words := append(anyWords(&from, n), anyWords(&from, n)...)
				bells.HoldTask(t, room(n), hand, ring, words[:from.Below(len(words)+1)], 20)
			}
		}
	}
}

func TestP9_1_AnyWordsByModel(t *testing.T) {
	from := trial.Source(4)
	ended := 0
	for range 6000 {
		n := 1 + from.Below(api.MaxHands)
		hands := from.Below(api.MaxHands + 1)
		jobs := anyJobs(&from, hands, 4)
		if from.Below(2) == 0 {
			jobs = alike(hands, 1+from.Below(4))
		}
		if x, _ := bells.HoldRun(t, room(n), anyWords(&from, n), jobs, from.Schedule(from.Below(80)), from.Below(200)); x.Ended {
			ended++
		}
	}
	if ended < 500 || ended > 5500 {
		t.Error("too few runs have ended, or too many:", ended)
	}
}

// most in the middle of a task: what it has done so far stands in the words, and no answer is told.
func TestP9_1_MostInTheMiddle(t *testing.T) {
	hands := [][]api.Job{nil, {ring, ring}, {}}
	for most, want := range [][]uint64{{0, 5}, {0, 5}, {1, 5}, {0, 5}, {0, 6}, {0, 6}, {1, 6}, {0, 6}, {0, 7}, {0, 7}} {
		told := []api.Answer{trial.Told(5), trial.Told(6)}[:min(2, most/4)]
		x, a := bells.HoldRun(t, room(1), []uint64{0, 5}, hands, []int{4}, most)
		if len(x.Steps) != min(most, 8) || x.Ended != (most >= 8) || !slices.Equal(x.Words, want) || !trial.SameAnswers(a, [][]api.Answer{nil, told, nil}) {
			t.Error(most, x, a)
		}
	}
	schedule := []int{0, 1, 1, 1, 0, 0, 1, 0, 1}
	for most, want := range [][]uint64{{0, 5}, {0, 5}, {0, 5}, {1, 5}, {1, 5}, {2, 5}, {0, 5}, {0, 5}, {0, 6}, {0, 6}, {0, 6}} {
		x, a := bells.HoldRun(t, room(2), []uint64{0, 5}, alike(2, 1), schedule, most)
		if len(x.Steps) != min(most, 9) || x.Ended != (most >= 9) || !slices.Equal(x.Words, want) || len(a[0]) != max(0, min(1, most-7)) || len(a[1]) != max(0, min(1, most-8)) {
			t.Error(most, x, a)
		}
	}
	from := trial.Source(5)
	for most := range 80 {
		bells.HoldRun(t, room(3), make([]uint64, 2), [][]api.Job{{ring, ring}, nil, {ring, ring}, {ring, ring}}, from.Schedule(40), most)
	}
}

// Schedules that are empty, shorter than the run, just as long, and longer.
func TestP9_1_Schedules(t *testing.T) {
	from := trial.Source(6)
	long := from.Schedule(150)
	for n := range len(long) {
		holdWhole(t, 3, 4, long[:n])
		x, _ := bells.HoldRun(t, room(3), []uint64{0, math.MaxUint64}, [][]api.Job{{ring, ring}, nil, {ring, ring}, {}, {ring, ring}}, long[:n], 1000)
		if !x.Ended || !slices.Equal(x.Words, []uint64{0, 1}) {
			t.Fatal(n, x.Words)
		}
	}
}

// At the limits: 8 hands of the greatest room with 256 jobs each, a schedule and most of 65536.
func TestP9_1_AtTheLimits(t *testing.T) {
	from := trial.Source(7)
	holdWhole(t, api.MaxHands, api.MaxJobs, from.Schedule(api.MaxSteps))
	holdWhole(t, api.MaxHands, api.MaxJobs, nil)
	holdWhole(t, 1, api.MaxJobs, make([]int, api.MaxSteps))
}
