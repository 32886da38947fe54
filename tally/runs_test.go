package tally_test

import (
	"runtime"
	"slices"
	"testing"

	"midden/api"
	"midden/tally"
	"midden/trial"
)

// All schedules of the first steps; behind them the hands take turns.
func TestP5_2_EverySchedule(t *testing.T) {
	words := []uint64{1, 1<<64 - 2, 4, 6}
	for _, hands := range [][][]api.Job{
		{{count(1, 3), most(0, 7)}, {most(0, 9), count(1, 5)}},
		{{most(1, 5), most(1, 8)}, {most(1, 7), sum}},
		{{most(0, 5), count(0, 1)}, {most(0, 5)}, {count(0, 2), most(0, 6)}},
	} {
		for schedule := range trial.Lists(len(hands), 8) {
			x, a := holdRun(t, words, hands, schedule, 60)
			if !x.Ended || len(a[0]) != len(hands[0]) {
				t.Fatal(hands, schedule, x)
			}
			holdEnd(t, words, hands, x.Words)
		}
	}
}

func TestP5_2_AnySchedule(t *testing.T) {
	from := newSource(4)
	for range 1000 {
		room := 1 + from.Below(3)
		words := from.words(room)
		hands := from.jobs(1+from.Below(api.MaxHands), 8, room, from.value)
		x, _ := holdRun(t, words, hands, from.Schedule(from.Below(200)), 5000)
		if !x.Ended {
			t.Fatal(hands, len(x.Steps))
		}
		holdEnd(t, words, hands, x.Words)
	}
}

// Counts of 1 by all hands at one stripe: each number up to the last is told once, and each hand's own rise.
func TestP5_2_FreeAtOneStripe(t *testing.T) {
	hands := slices.Repeat([][]api.Job{slices.Repeat([]api.Job{count(1, 1)}, api.MaxJobs)}, api.MaxHands)
	const all = api.MaxHands * api.MaxJobs
	for range 40 {
		w, a, e := tally.Free(api.Shape{Room: 2}, hands)
		if e != api.OK || !slices.Equal(w, []uint64{0, all, 0, 0}) {
			t.Fatal(w, e)
		}
		var seen [all + 1]int
		for h := range a {
			last := uint64(0)
			for _, x := range a[h] {
				if !x.OK || x.Val <= last || x.Val > all || len(a[h]) != api.MaxJobs {
					t.Fatal(h, x, last)
				}
				seen[x.Val]++
				last = x.Val
			}
		}
		if slices.Max(seen[:]) != 1 {
			t.Fatal("a number was told twice")
		}
	}
}

// Sums that pass 2^64 many times over.
func TestP5_2_FreePastTheEnd(t *testing.T) {
	from := newSource(5)
	for range 40 {
		hands := make([][]api.Job, api.MaxHands)
		for h := range hands {
			for range api.MaxJobs {
				hands[h] = append(hands[h], count(0, 1<<63+uint64(from.Below(1<<30))<<20+uint64(h)))
			}
		}
		w, _, e := tally.Free(api.Shape{Room: 1}, hands)
		if e != api.OK {
			t.Fatal(e)
		}
		holdEnd(t, make([]uint64, 2), hands, w)
	}
}

// All hands at one greatest: each raises it higher and higher; lesser ones must not write over what stands there.
func TestP5_2_FreeAtOneGreatest(t *testing.T) {
	hands := make([][]api.Job, api.MaxHands)
	for h := range hands {
		for i := range api.MaxJobs {
			hands[h] = append(hands[h], most(0, uint64(1+i*api.MaxHands+h)))
		}
	}
	hands[3][100] = most(0, 1<<40) // the greatest amid the others
	for range 100 {
		w, a, e := tally.Free(api.Shape{Room: 1}, hands)
		if e != api.OK || !slices.Equal(w, []uint64{0, 1 << 40}) || a[3][100] != trial.Told(1<<40) {
			t.Fatal(w, e)
		}
		for h := range a {
			last := uint64(0)
			for i, x := range a[h] {
				if to := hands[h][i].H; x.Val < last || x.OK && x.Val != to || x.Val < to {
					t.Fatalf("hand %d, job %d: %v, behind %d", h, i, x, last)
				}
				last = x.Val
			}
		}
	}
}

func TestP5_2_FreeOfAnyJobs(t *testing.T) {
	from := newSource(6)
	for range 500 {
		room := 1 + from.Below(4)
		hands := from.jobs(from.Below(api.MaxHands+1), 40, room, from.value)
		w, a, e := tally.Free(api.Shape{Room: room}, hands)
		if e != api.OK || len(a) != len(hands) {
			t.Fatal(e)
		}
		for h := range a {
			if len(a[h]) != len(hands[h]) {
				t.Fatal(h, len(a[h]), len(hands[h]))
			}
		}
		holdEnd(t, make([]uint64, 2*room), hands, w)
	}
}

func TestP5_2_FreeByOneHand(t *testing.T) {
	from := newSource(7)
	for range 300 {
		room := 1 + from.Below(3)
		tallies.HoldOneHand(t, api.Shape{Room: room}, from.jobs(1, 20, room, from.value)[0])
	}
}

// With one processor, too, all hands end.
func TestP5_2_FreeOnOneProcessor(t *testing.T) {
	defer runtime.GOMAXPROCS(runtime.GOMAXPROCS(1))
	from := newSource(8)
	for range 100 {
		hands := from.jobs(api.MaxHands, 100, 2, from.value)
		w, _, e := tally.Free(api.Shape{Room: 2}, hands)
		if e != api.OK {
			t.Fatal(e)
		}
		holdEnd(t, make([]uint64, 4), hands, w)
	}
}

// All goroutines have ended when the call answers.
func TestP5_2_NobodyLeft(t *testing.T) {
	before := runtime.NumGoroutine()
	from := newSource(9)
	for range 50 {
		tally.Free(api.Shape{Room: 2}, from.jobs(api.MaxHands, 9, 2, from.value))
	}
	if !trial.Settles(before, runtime.NumGoroutine, runtime.Gosched) {
		t.Error(before, runtime.NumGoroutine())
	}
}

// holdBetween fails, if a Sum tells less than the stripes' sum ahead of it, or more than that behind it. It tells
// how many Sums lay strictly between.
func holdBetween(t *testing.T, words []uint64, hands [][]api.Job, schedule []int) (strictly int) {
	t.Helper()
	room := len(words) / 2
	x, a, e := tally.Play(api.Shape{Room: room}, words, hands, schedule, api.MaxSteps)
	if e != api.OK || !x.Ended {
		t.Fatal(hands, e)
	}
	ahead := []uint64{0} // of each step, and behind the last one
	for _, w := range words[:room] {
		ahead[0] += w
	}
	for i, s := range x.Steps {
		next := ahead[i]
		if s.At < room {
			next += s.Put - s.Had
		}
		if next < ahead[i] {
			t.Fatal("the test's sums pass 2^64", hands)
		}
		ahead = append(ahead, next)
	}
	for _, u := range spans(tally.Sum, x, hands, room) {
		got, low, high := a[u.hand][u.number], ahead[u.first], ahead[u.last+1]
		if !got.OK || got.Val < low || got.Val > high || u.steps != room {
			t.Fatalf("%v %v: hand %d, job %d: %v, not from %d to %d", hands, schedule, u.hand, u.number, got, low, high)
		}
		if low < got.Val && got.Val < high {
			strictly++
		}
	}
	return strictly
}

func TestP5_3_EverySchedule(t *testing.T) {
	words, strictly := []uint64{1 << 20, 0, 5, 9, 9, 9}, 0
	for schedule := range trial.Lists(2, 10) {
		hands := [][]api.Job{{sum, sum}, {count(0, 1), count(2, 1<<8), count(1, 1<<16), count(0, 1<<62)}}
		strictly += holdBetween(t, words, hands, schedule)
	}
	for schedule := range trial.Lists(3, 7) {
		hands := [][]api.Job{{sum}, {count(0, 1), count(2, 4)}, {count(2, 16), count(1, 64), sum}}
		strictly += holdBetween(t, words, hands, schedule)
	}
	if strictly == 0 {
		t.Error("no Sum had a Count amid it")
	}
}

// Up to sums just below 2^64.
func TestP5_3_AnySchedule(t *testing.T) {
	from := newSource(10)
	for round := range 1500 {
		room := 1 + from.Below(6)
		words := make([]uint64, 2*room)
		words[from.Below(room)] = 1 << 62
		if round%2 == 0 { // one less than what all Counts could add, up to 2^64
			words[from.Below(room)] += 3<<62 - 8*10*(1<<10) - 1
		}
		small := func() uint64 { return uint64(from.Below(1 << 10)) }
		holdBetween(t, words, from.jobs(1+from.Below(api.MaxHands), 10, room, small), from.Schedule(from.Below(300)))
	}
}

// Free, too, a hand's own Sums never fall, and never pass what stands there in the end.
func TestP5_3_FreeSumsRise(t *testing.T) {
	for range 50 {
		hands := make([][]api.Job, api.MaxHands)
		for h := range hands {
			for i := range 120 {
				hands[h] = append(hands[h], count((i*3+h)%5, uint64(1+i)), sum)
			}
		}
		w, a, e := tally.Free(api.Shape{Room: 5}, hands)
		if e != api.OK {
			t.Fatal(e)
		}
		all := w[0] + w[1] + w[2] + w[3] + w[4]
		for h := range a {
			last, own := uint64(0), uint64(0)
			for i := 1; i < len(a[h]); i += 2 {
				own += hands[h][i-1].H
				if x := a[h][i]; !x.OK || x.Val < last || x.Val < own || x.Val > all {
					t.Fatal(h, i, x, last, own, all)
				}
				last = a[h][i].Val
			}
		}
	}
}

// holdShort fails, if a Most takes more than two steps and two for each change by others; it tells the longest.
func holdShort(t *testing.T, words []uint64, hands [][]api.Job, schedule []int) (longest int) {
	t.Helper()
	room := len(words) / 2
	x, _, e := tally.Play(api.Shape{Room: room}, words, hands, schedule, api.MaxSteps)
	if e != api.OK || !x.Ended {
		t.Fatal(hands, e)
	}
	for _, u := range spans(tally.Most, x, hands, room) {
		changes := 0
		for _, s := range x.Steps[u.first : u.last+1] {
			if s.Hand != u.hand && s.At == room+hands[u.hand][u.number].A && s.Put != s.Had {
				changes++
			}
		}
		if u.steps > 2+2*changes {
			t.Fatalf("%v %v: hand %d, job %d: %d steps, but %d changes", hands, schedule, u.hand, u.number, u.steps, changes)
		}
		longest = max(longest, u.steps)
	}
	return longest
}

func TestP5_4_EverySchedule(t *testing.T) {
	words := []uint64{0, 0, 1, 1}
	longest := 0
	for schedule := range trial.Lists(2, 10) {
		hands := [][]api.Job{{most(0, 9), most(0, 4)}, {most(0, 3), count(0, 1), most(1, 5), most(0, 6), most(0, 9)}}
		longest = max(longest, holdShort(t, words, hands, schedule))
	}
	if longest < 6 {
		t.Error("no Most has lost twice", longest)
	}
	for schedule := range trial.Lists(3, 7) {
		holdShort(t, words, [][]api.Job{{most(1, 4)}, {most(1, 3), most(1, 5)}, {most(1, 2), sum}}, schedule)
	}
}

func TestP5_4_AnySchedule(t *testing.T) {
	from := newSource(11)
	for range 1500 {
		room := 1 + from.Below(2)
		hands := from.jobs(1+from.Below(api.MaxHands), 12, room, from.value)
		holdShort(t, make([]uint64, 2*room), hands, from.Schedule(from.Below(400)))
	}
}

// A Most that loses each of its CAS, as often as others have Mosts: just two steps more than twice these.
func TestP5_4_LosesAllOfThem(t *testing.T) {
	for _, losses := range []int{0, 1, 2, 3, 100, api.MaxJobs} {
		hands := [][]api.Job{{most(0, 1<<20)}, nil}
		var schedule []int
		for i := range losses {
			hands[1] = append(hands[1], most(0, uint64(i+1)))
			schedule = append(schedule, 0, 1, 1, 0)
		}
		if longest := holdShort(t, make([]uint64, 2), hands, schedule); longest != 2+2*losses {
			t.Error(losses, longest)
		}
	}
}
