package epoch_test

import (
	"math"
	"math/bits"
	"runtime"
	"slices"
	"testing"

	"midden/api"
	"midden/epoch"
	"midden/trial"
)

// Jobs of several hands in every order of their steps, with all that came ahead of them: behind each step no place was
// reaped that a hand can see, none that wasn't given up, and the epoch has grown by one at most. Each case tells how many
// places are reaped, where most are.
func TestP11_2_EveryOrder(t *testing.T) {
	for _, c := range []struct {
		room, least, reaped int
		hands               [][]api.Job
	}{
		{1, 20, 0, [][]api.Job{{enter, retire(0), reap, reap, reap}}},
		{1, 50, 0, [][]api.Job{{enter}, {retire(0), reap}}},
		{1, 300, 1, [][]api.Job{{enter, leave}, {retire(0), reap, reap, reap}}},
		{1, 1000, 1, [][]api.Job{{enter}, {retire(0)}, {reap, reap, reap}}},
		{1, 300, 1, [][]api.Job{{enter, enter}, {retire(0), reap, reap, reap}}},
		{1, 5000, 0, [][]api.Job{{enter, retire(0)}, {reap, reap}, {reap}}},
		{1, 1000, 0, [][]api.Job{{enter, retire(0), reap, reap}, {reap, reap}}},
		{1, 5000, 1, [][]api.Job{{enter, retire(0), leave}, {reap, reap}, {reap}}},
		{1, 1000, 1, [][]api.Job{{enter, retire(0), leave, reap}, {reap, reap}}},
		{1, 5000, 2, [][]api.Job{{retire(0), reap, reap}, {retire(0)}, {reap}}},
		{1, 1000, 1, [][]api.Job{{enter, leave}, {enter, leave}, {retire(0), reap, reap}}},
		{2, 200, 2, [][]api.Job{{retire(0), retire(1), reap, reap}, {enter, leave}}},
	} {
		spots, reaped := everyPast(t, c.room, c.hands)
		if spots < c.least || reaped != c.reaped {
			t.Error(c, spots, reaped)
		}
	}
}

// A hand comes in and stays; behind that places are given up: however the steps go, they stay given up.
func TestP11_2_WhoStays(t *testing.T) {
	from := trial.Source(10)
	for stays := range api.MaxHands {
		for range 40 {
			hands := slices.Repeat([][]api.Job{reaps(6)}, api.MaxHands)
			hands[stays] = append([]api.Job{enter, retire(0), retire(1)}, reaps(3)...)
			hands[(stays+1)%api.MaxHands] = []api.Job{reap, enter, reap, leave, reap, reap}
			x, _, b := holdWhole(t, 2, hands, from.Schedule(from.Below(700)))
			if b.reaped != 0 || x.Words[placeAt(0)] == 0 || x.Words[placeAt(1)] == 0 {
				t.Fatal(stays, x, b)
			}
		}
	}
}

// An Enter has loaded the epoch 0, and Reaps go by ahead of its store: from there on the epoch is turned once more at
// most, by a Reap that has asked the hand already.
func TestP11_2_EnterIsSlow(t *testing.T) {
	for by := range 5 {
		for amid := range 12 {
			schedule := slices.Concat([]int{0}, slices.Repeat([]int{1}, 12*by+amid), []int{0, 0, 0})
			x, a, b := holdWhole(t, 1, [][]api.Job{{enter, retire(0)}, reaps(by + 6)}, schedule)
			want := uint64(by)
			if by == 0 || amid >= 2 {
				want++
			}
			if a[0][0] != trial.Told(0) || b.reaped != 0 || x.Words[wordOf(0)] != 1 || x.Words[now] != want {
				t.Fatal(by, amid, a, b)
			}
		}
	}
}

// Hand 0 leaves: from there on what it saw is reaped, and no earlier; of a hand that comes in again, too.
func TestP11_2_UntilItLeaves(t *testing.T) {
	for _, last := range []api.Job{leave, enter} {
		for before := 1; before < 6; before++ {
			words := holdGoes(t, 1, fresh(1), slices.Concat(
				[]inOneGo{{0, enter, trial.Told(0)}, {1, retire(0), trial.Told(0)}}, slices.Repeat([]inOneGo{{2, reap, trial.Told(0)}}, before)))
			if !slices.Equal(words, memory(1, []uint64{1}, 1)) {
				t.Fatal(before, words)
			}
			want := trial.Told(0)
			if last == enter {
				want.Val = 1
			}
			words = holdGoes(t, 1, words, []inOneGo{{0, last, want}, {2, reap, trial.Told(1)}})
			if words[now] != 2 || words[placeAt(0)] != 0 {
				t.Fatal(before, words)
			}
		}
	}
}

// Runs that go on to their end, and runs that are left in the middle.
func TestP11_2_AnySchedule(t *testing.T) {
	from := trial.Source(11)
	reaped, kept := 0, 0
	for range 1500 {
		n := 1 + from.Below(4)
		_, _, b := holdWhole(t, n, anyJobs(&from, n, 1+from.Below(api.MaxHands), 12), from.Schedule(from.Below(800)))
		reaped += b.reaped
		n = 1 + from.Below(api.MaxRoom)
		_, _, b = holdBook(t, n, anyJobs(&from, n, 1+from.Below(api.MaxHands), 12), from.Schedule(400), from.Below(800))
		for _, p := range b.places {
			kept += bits.OnesCount8(p.seers)
		}
	}
	if reaped < 1000 || kept < 1000 {
		t.Error("too few places were reaped, or too few are seen:", reaped, kept)
	}
}

// Several Reaps at one place that was given up: one of them tells it, whoever is first.
func TestP11_3_OneTellsIt(t *testing.T) {
	for reapers := 2; reapers <= 4; reapers++ {
		hands := slices.Repeat([][]api.Job{{reap}}, reapers)
		words := memory(4, nil, 2, 0, 4)
		for schedule := range trial.Lists(reapers, 5) {
			// each has come to the places
			x, a := epochs.HoldRun(t, room(3), words, hands, slices.Concat(turnsOf(reapers, 11), schedule, schedule), 200)
			told := uint64(0)
			for h := range a {
				if told&a[h][0].Val != 0 {
					t.Fatal(reapers, schedule, a)
				}
				told |= a[h][0].Val
			}
			if !x.Ended || told != 0b101 || !slices.Equal(x.Words[9:], make([]uint64, 3)) {
				t.Fatal(reapers, schedule, x, a)
			}
		}
	}
}

// turnsOf: a schedule by which each hand makes so many steps in turn.
func turnsOf(hands, each int) []int {
	var out []int
	for range each {
		for h := range hands {
			out = append(out, h)
		}
	}
	return out
}

// Retires and Reaps of one place by all hands, by any schedule.
func TestP11_3_OnePlace(t *testing.T) {
	from := trial.Source(12)
	lost, reaped := 0, 0
	for range 1000 {
		hands := make([][]api.Job, 2+from.Below(api.MaxHands-1))
		for h := range hands {
			hands[h] = slices.Repeat([]api.Job{retire(0), reap}, 1+from.Below(6))
		}
		x, a, b := holdWhole(t, 1, hands, from.Schedule(from.Below(1500)))
		left := leftUp(1, hands, a)[0]
		if left != int(min(x.Words[placeAt(0)], 1)) {
			t.Fatal(hands, left, x.Words)
		}
		reaped += b.reaped
		for h := range hands {
			lost += trial.CountLost(x, h, placeAt(0))
		}
	}
	if lost < 1000 || reaped < 1000 {
		t.Error("too few CAS were lost, or too few places reaped:", lost, reaped)
	}
}

// holdFree fails, if the words and answers of hands that run free are such as no schedule gives.
func holdFree(t *testing.T, n int, hands [][]api.Job) ([]uint64, [][]api.Answer) {
	t.Helper()
	words, a, e := epoch.Free(room(n), hands)
	if e != api.OK || len(words) != 9+n || len(a) != len(hands) {
		t.Fatal(n, words, len(a), e)
	}
	reapers := uint64(0)
	own := make([]uint64, 8)
	for h := range hands {
		if len(a[h]) != len(hands[h]) {
			t.Fatal(n, h, a[h])
		}
		came := uint64(0)
		for k, j := range hands[h] {
			told := a[h][k]
			switch j.Kind {
			case epoch.Enter:
				if told.Val < came || told.Val > words[now] {
					t.Fatal("the epoch falls", h, k, came, told, words[now])
				}
				came, own[h] = told.Val, told.Val+1
			case epoch.Leave:
				own[h] = 0
			case epoch.Reap:
				reapers++
			}
		}
	}
	if words[now] > reapers || !slices.Equal(words[1:9], own) {
		t.Fatal(n, words, reapers, own)
	}
	holdOnce(t, n, hands, a)
	for i, left := range leftUp(n, hands, a) {
		w := words[placeAt(i)]
		if left > 1 || (left == 1) != (w != 0) || w > words[now]+1 {
			t.Fatal(n, "place", i, left, words)
		}
	}
	return words, a
}

// around: each hand comes in, gives up a place, goes out and reaps, again and again; the hands' places are unlike, or
// all the same.
func around(n, hands, times int) [][]api.Job {
	out := make([][]api.Job, hands)
	for h := range out {
		for k := range times {
			out[h] = append(out[h], enter, retire((h+k)%n), leave, reap)
		}
	}
	return out
}

func TestP11_3_Free(t *testing.T) {
	for _, n := range []int{1, 2, 3, 8, api.MaxRoom} {
		for hands := 1; hands <= api.MaxHands; hands++ {
			for range 5 {
				holdFree(t, n, around(n, hands, api.MaxJobs/4))
			}
		}
		holdFree(t, n, nil)
		holdFree(t, n, make([][]api.Job, api.MaxHands))
	}
}

func TestP11_3_FreeAnyJobs(t *testing.T) {
	from := trial.Source(13)
	for range 600 {
		n := 1 + from.Below(5)
		if from.Below(5) == 0 {
			n = 1 + from.Below(api.MaxRoom)
		}
		holdFree(t, n, anyJobs(&from, n, from.Below(api.MaxHands+1), 60))
	}
}

// Few jobs each, again and again: they meet at the beginning.
func TestP11_3_FreeOftenFew(t *testing.T) {
	for range 1500 {
		holdFree(t, 1, slices.Repeat([][]api.Job{{retire(0), reap, reap, reap}}, api.MaxHands))
		holdFree(t, 2, around(2, 3, 2))
	}
}

func TestP11_3_FreeOneHand(t *testing.T) {
	from := trial.Source(14)
	for n := 1; n <= api.MaxRoom; n++ {
		epochs.HoldOneHand(t, room(n), slices.Concat(anyJobs(&from, n, 1, 20)[0], []api.Job{enter, retire(n - 1), leave, reap}))
	}
}

// Who came in ahead of its own Retire and stays sees the place, whatever the others do.
func TestP11_2_FreeWhoStays(t *testing.T) {
	for range 200 {
		hands := slices.Repeat([][]api.Job{slices.Repeat([]api.Job{enter, reap, leave, reap}, 20)}, api.MaxHands)
		hands[5] = []api.Job{reap, reap, enter, retire(2), reap, reap}
		if words, _ := holdFree(t, 3, hands); words[placeAt(2)] == 0 {
			t.Fatal(words)
		}
	}
}

// With one processor, too, all hands end.
func TestP11_3_FreeOneProcessor(t *testing.T) {
	defer runtime.GOMAXPROCS(runtime.GOMAXPROCS(1))
	for _, n := range []int{1, 8, api.MaxRoom} {
		holdFree(t, n, around(n, api.MaxHands, api.MaxJobs/4))
	}
}

// All goroutines have ended when the call answers.
func TestP11_3_FreeNobodyLeft(t *testing.T) {
	before := runtime.NumGoroutine()
	for range 50 {
		holdFree(t, 4, around(4, api.MaxHands, 3))
		epoch.Free(room(2), [][]api.Job{{reap}, {retire(2)}})
	}
	if !trial.Settles(before, runtime.NumGoroutine, runtime.Gosched) {
		t.Error(before, runtime.NumGoroutine())
	}
}

// holdAllBack fails, if three Reaps, one behind the other, don't give back all that is given up, each place once.
func holdAllBack(t *testing.T, words []uint64, reapers [3]int) {
	t.Helper()
	if !slices.Equal(words[1:9], make([]uint64, 8)) {
		t.Fatal("a hand is inside", words)
	}
	n, up := len(words)-9, uint64(0)
	for i, w := range words[9:] {
		if w != 0 {
			up |= 1 << i
		}
	}
	is, told := words, uint64(0)
	for _, h := range reapers {
		hands := make([][]api.Job, h+1)
		hands[h] = []api.Job{reap}
		x, a := epochs.HoldRun(t, room(n), is, hands, nil, api.MaxSteps)
		if told&a[h][0].Val != 0 {
			t.Fatal("told twice", words, a)
		}
		is, told = x.Words, told|a[h][0].Val
	}
	if told != up || !slices.Equal(is, append([]uint64{words[now] + 3}, make([]uint64, 8+n)...)) {
		t.Fatal(words, is, told)
	}
}

func anyReapers(from *trial.Source) [3]int {
	return [3]int{from.Below(api.MaxHands), from.Below(api.MaxHands), from.Below(api.MaxHands)}
}

func TestP11_4_BehindEveryOrder(t *testing.T) {
	from := trial.Source(15)
	for _, c := range []struct {
		room  int
		hands [][]api.Job
	}{
		{1, [][]api.Job{{retire(0)}, {reap}, {retire(0)}}},
		{1, [][]api.Job{{enter, retire(0), leave}, {reap, reap}}},
		{2, [][]api.Job{{retire(0), retire(1)}, {reap, reap, reap}}},
		{2, [][]api.Job{{enter, leave}, {retire(1)}, {reap, reap}}},
	} {
		everyOrder(t, c.room, fresh(c.room), c.hands, func(schedule []int) {
			x, _, _ := holdWhole(t, c.room, c.hands, schedule)
			holdAllBack(t, x.Words, anyReapers(&from))
		})
	}
}

func TestP11_4_BehindAnySchedule(t *testing.T) {
	from := trial.Source(16)
	back := 0
	for range 1500 {
		n := 1 + from.Below(5)
		if from.Below(5) == 0 {
			n = 1 + from.Below(api.MaxRoom)
		}
		hands := leaveAll(anyJobs(&from, n, 1+from.Below(api.MaxHands), 10))
		x, _, b := holdWhole(t, n, hands, from.Schedule(from.Below(600)))
		holdAllBack(t, x.Words, anyReapers(&from))
		for _, p := range b.places {
			if p.up {
				back++
			}
		}
	}
	if back < 1000 {
		t.Error("too few places were given up in the end:", back)
	}
}

func TestP11_4_BehindFree(t *testing.T) {
	from := trial.Source(17)
	for range 300 {
		n := 1 + from.Below(api.MaxRoom)
		words, _ := holdFree(t, n, leaveAll(anyJobs(&from, n, 1+from.Below(api.MaxHands), 60)))
		holdAllBack(t, words, anyReapers(&from))
	}
	all := make([][]api.Job, api.MaxHands)
	for i := range api.MaxRoom {
		all[i%api.MaxHands] = append(all[i%api.MaxHands], retire(i))
	}
	words, _ := holdFree(t, api.MaxRoom, all)
	holdAllBack(t, words, [3]int{0, 0, 0})
}

// Three Reaps of one hand in one run, and of three hands beside one another where none comes amid another.
func TestP11_4_InOneRun(t *testing.T) {
	for n := 1; n <= api.MaxRoom; n++ {
		var jobs []api.Job
		for i := range n {
			jobs = append(jobs, retire(i))
		}
		all := uint64(math.MaxUint64) >> (64 - n)
		x, a, _ := holdWhole(t, n, [][]api.Job{append(slices.Clip(jobs), reaps(3)...)}, nil)
		if told := a[0][n:]; told[0].Val|told[1].Val|told[2].Val != all || x.Words[now] != 3 {
			t.Fatal(n, told, x.Words)
		}
		x, a, _ = holdWhole(t, n, [][]api.Job{jobs, {reap}, {reap}, {reap}}, make([]int, 1000))
		if a[1][0].Val|a[2][0].Val|a[3][0].Val != all || x.Words[now] != 3 {
			t.Fatal(n, a, x.Words)
		}
	}
}

// As far as the epochs go: the last one is 2^64 - 4.
func TestP11_4_LastEpochs(t *testing.T) {
	for e := uint64(math.MaxUint64 - 9); e <= math.MaxUint64-3; e++ {
		for w := e - 3; w <= e+1; w++ {
			holdAllBack(t, memory(e, nil, w, 0, 1, e+1), [3]int{7, 0, 3})
		}
	}
}

// holdEpoch fails, if the epoch falls in a run, or grows by more than one at a time.
func holdEpoch(t *testing.T, first uint64, x api.Trace) (turns int) {
	t.Helper()
	is := first
	for i, s := range x.Steps {
		if s.At != now {
			continue
		}
		if s.Had != is || s.Put < is || s.Put-is > 1 {
			t.Fatalf("step %d of %v: %d", i, x, is)
		}
		turns += int(s.Put - is)
		is = s.Put
	}
	if x.Words[now] != is {
		t.Fatal(x.Words, is)
	}
	return turns
}

// From words of all kinds, and from epochs that the run's Reaps don't bring to the end.
func TestP11_5_AnyWords(t *testing.T) {
	from := trial.Source(18)
	turns := 0
	for range 3000 {
		n := 1 + from.Below(4)
		hands := anyJobs(&from, n, 1+from.Below(api.MaxHands), 8)
		words := anyWords(&from, n)
		words[now] = min(words[now], math.MaxUint64-64)
		for h := range 8 {
			words[wordOf(h)] = []uint64{0, 0, words[now] + 1, words[wordOf(h)]}[from.Below(4)]
		}
		x, _, e := epoch.Play(room(n), words, hands, from.Schedule(from.Below(600)), from.Below(1000))
		if e != api.OK {
			t.Fatal(e)
		}
		turns += holdEpoch(t, words[now], x)
	}
	if turns < 1000 {
		t.Error("too few turns:", turns)
	}
}

// Reaps beside one another that have loaded one epoch turn it once.
func TestP11_5_TurnedOnce(t *testing.T) {
	for reapers := 1; reapers <= api.MaxHands; reapers++ {
		for made := 1; made <= 9; made++ {
			x, _, _ := holdWhole(t, 2, slices.Repeat([][]api.Job{{reap}}, reapers), turnsOf(reapers, made))
			if turns := holdEpoch(t, 0, x); turns != 1 {
				t.Fatal(reapers, made, turns)
			}
		}
	}
}

// A memory that a run has left goes on as well, from its epoch on.
func TestP11_5_OneRunBehindTheOther(t *testing.T) {
	from := trial.Source(19)
	for _, n := range []int{1, 3, api.MaxRoom} {
		words := fresh(n)
		for range 60 {
			hands := leaveAll(anyJobs(&from, n, api.MaxHands, 4))
			most := []int{from.Below(400), api.MaxSteps}[from.Below(2)]
			x, _ := epochs.HoldRun(t, room(n), words, hands, from.Schedule(from.Below(200)), most)
			holdEpoch(t, words[now], x)
			words = x.Words
		}
		if words[now] < 5 {
			t.Error(n, words)
		}
	}
}
