package pile_test

import (
	"runtime"
	"slices"
	"testing"

	"midden/api"
	"midden/pile"
	"midden/trial"
)

// All schedules of the first steps; behind them the hands take turns. Two jobs without a CAS lost are over by then.
func TestP6_2_EverySchedule(t *testing.T) {
	for kinds := range trial.Lists(2, 2) {
		for schedule := range trial.Lists(2, 13) {
			holdWhole(t, 2, [][]api.Job{by(kinds[:1], 1), by(kinds[1:], 11)}, schedule)
		}
	}
	for _, hands := range [][][]api.Job{
		{{push(1), pop}, {push(2), pop}},
		{{push(1), push(2), pop}, {pop, push(3)}},
		{{push(1), pop, push(2)}, {push(3), push(4)}},
		{{push(1)}, {push(2), pop}, {pop, push(3)}},
	} {
		for n := 1; n <= 2; n++ {
			for schedule := range trial.Lists(len(hands), 8) {
				holdWhole(t, n, hands, append(schedule, schedule...))
			}
		}
	}
}

// Pops of one value: one tells it, the others find nothing, whatever the schedule.
func TestP6_2_PopsOfOneValue(t *testing.T) {
	words := []uint64{tagged(1, 1), tagged(2, 1), 0, 4, 0, 0}
	for schedule := range trial.Lists(3, 8) {
		x, a := piles.HoldRun(t, room(2), words, [][]api.Job{{pop}, {pop}, {pop}}, schedule, 100)
		got := slices.Concat(a...)
		slices.SortFunc(got, func(a, b api.Answer) int { return int(a.Val) - int(b.Val) })
		if !x.Ended || !slices.Equal(got, []api.Answer{{}, {}, trial.Told(4)}) {
			t.Fatal(schedule, a)
		}
	}
}

func TestP6_2_AnySchedule(t *testing.T) {
	from := trial.Source(6)
	losses := [2]int{}
	for range 1500 {
		x := holdWhole(t, 1+from.Below(5), anyJobs(&from, 1+from.Below(api.MaxHands), 12), from.Schedule(from.Below(800)))
		for h := range api.MaxHands {
			losses[top] += trial.CountLost(x, h, top)
			losses[spare] += trial.CountLost(x, h, spare)
		}
	}
	if losses[top] < 1000 || losses[spare] < 1000 {
		t.Error("too few CAS were lost", losses)
	}
}

// A run that is left in the middle is a pile's, too.
func TestP6_2_CutOff(t *testing.T) {
	from := trial.Source(7)
	for range 500 {
		n := 1 + from.Below(3)
		hands := anyJobs(&from, api.MaxHands, 6)
		x, a := piles.HoldRun(t, room(n), fresh(t, n), hands, from.Schedule(200), from.Below(200))
		holdPile(t, nil, x, hands, a)
	}
}

// A pile that is filled and emptied again and again, by hands that lie in wait for one another.
func TestP6_3_FilledAndEmptied(t *testing.T) {
	from := trial.Source(8)
	for n := 1; n <= api.MaxRoom; n++ {
		var hands [][]api.Job
		for h := range 3 {
			jobs := slices.Repeat([]api.Job{push(uint64(h))}, n)
			jobs = append(jobs, slices.Repeat([]api.Job{pop}, n)...)
			hands = append(hands, jobs, append(slices.Repeat([]api.Job{pop}, n/2), jobs...))
		}
		holdWhole(t, n, hands, from.Schedule(2000))
	}
}

// A memory that such a run has left goes on as well.
func TestP6_3_OneRunBehindTheOther(t *testing.T) {
	from := trial.Source(9)
	words, lies := fresh(t, 3), []uint64(nil)
	for range 400 {
		var x api.Trace
		x, lies = holdOn(t, words, lies, anyJobs(&from, 4, 4), from.Schedule(60))
		words = x.Words
	}
}

// holdFree fails, if what was pushed with OK is not what was popped and what lies there, each value as often. It tells
// how many Pushes were OK.
func holdFree(t *testing.T, n int, hands [][]api.Job) int {
	t.Helper()
	w, a, e := pile.Free(room(n), hands)
	if e != api.OK || len(w) != 2+2*n || len(a) != len(hands) {
		t.Fatal(len(w), len(a), e)
	}
	var in, out []uint64
	for h, jobs := range hands {
		if len(a[h]) != len(jobs) {
			t.Fatal(h, len(a[h]), len(jobs))
		}
		for i, j := range jobs {
			switch x := a[h][i]; {
			case !x.OK && x.Val != 0 || x.OK && j.Kind == pile.Push && (x.Val < 1 || x.Val > uint64(n)):
				t.Fatal(h, i, j, x)
			case x.OK && j.Kind == pile.Push:
				in = append(in, j.H)
			case x.OK:
				out = append(out, x.Val)
			}
		}
	}
	out = append(out, holdPlaces(t, w)...)
	slices.Sort(in)
	slices.Sort(out)
	if !slices.Equal(in, out) {
		t.Fatalf("pushed %v; popped and left %v", in, out)
	}
	return len(in)
}

// Push and Pop in turn by all hands, each value another one; more Pushes than Room, at the smallest rooms and others.
func TestP6_4_PushAndPop(t *testing.T) {
	for _, n := range []int{1, 2, 3, 8, api.MaxRoom} {
		hands := make([][]api.Job, api.MaxHands)
		for h := range hands {
			for i := range api.MaxJobs / 2 {
				hands[h] = append(hands[h], push(uint64(h*api.MaxJobs+i)), pop)
			}
		}
		for range 20 {
			holdFree(t, n, hands)
		}
	}
}

func TestP6_4_AnyJobs(t *testing.T) {
	from := trial.Source(10)
	for range 300 {
		holdFree(t, 1+from.Below(6), anyJobs(&from, from.Below(api.MaxHands+1), 60))
	}
}

// No more Pushes than Room: each is OK, whatever is popped beside them.
func TestP6_4_NoMoreThanRoom(t *testing.T) {
	from := trial.Source(11)
	for range 300 {
		n := 1 + from.Below(api.MaxRoom)
		hands := make([][]api.Job, 1+from.Below(api.MaxHands))
		for i := range n {
			h := from.Below(len(hands))
			hands[h] = append(hands[h], push(uint64(i)))
		}
		for range from.Below(2 * api.MaxRoom) {
			h := from.Below(len(hands))
			hands[h] = slices.Insert(hands[h], from.Below(len(hands[h])+1), pop)
		}
		if ok := holdFree(t, n, hands); ok != n {
			t.Fatal(n, "places, but of as many Pushes only so many are OK:", ok)
		}
	}
}

// More Pushes than Room, and no Pop: just as many are OK as there are places.
func TestP6_4_MoreThanRoom(t *testing.T) {
	for _, n := range []int{1, 2, 7, api.MaxRoom} {
		hands := make([][]api.Job, api.MaxHands)
		for h := range hands {
			for i := range api.MaxRoom {
				hands[h] = append(hands[h], push(uint64(h*100+i)))
			}
		}
		for range 20 {
			if ok := holdFree(t, n, hands); ok != n {
				t.Fatal(n, ok)
			}
		}
	}
}

func TestP6_4_OneHand(t *testing.T) {
	from := trial.Source(12)
	for range 300 {
		piles.HoldOneHand(t, room(1+from.Below(3)), anyJobs(&from, 1, 20)[0])
	}
}

// With one processor, too, all hands end.
func TestP6_4_OneProcessor(t *testing.T) {
	defer runtime.GOMAXPROCS(runtime.GOMAXPROCS(1))
	from := trial.Source(13)
	for range 100 {
		holdFree(t, 2, anyJobs(&from, api.MaxHands, 100))
	}
}

// All goroutines have ended when the call answers.
func TestP6_4_NobodyLeft(t *testing.T) {
	before := runtime.NumGoroutine()
	from := trial.Source(14)
	for range 50 {
		holdFree(t, 2, anyJobs(&from, api.MaxHands, 9))
	}
	if !trial.Settles(before, runtime.NumGoroutine, runtime.Gosched) {
		t.Error(before, runtime.NumGoroutine())
	}
}
