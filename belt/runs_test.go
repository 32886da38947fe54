package belt_test

import (
	"runtime"
	"slices"
	"testing"

	"midden/api"
	"midden/belt"
	"midden/trial"
)

// All schedules of the first steps; behind them the hands take turns. Two jobs without a CAS lost are over by then.
func TestP7_2_EverySchedule(t *testing.T) {
	for n := 1; n <= 2; n++ {
		for kinds := range trial.Lists(2, 2) {
			for schedule := range trial.Lists(2, 10) {
				holdWhole(t, n, [][]api.Job{by(kinds[:1], 1), by(kinds[1:], 11)}, schedule)
			}
		}
	}
	for _, hands := range [][][]api.Job{
		{{give(1), fetch}, {give(2), fetch}},
		{{give(1), give(2), fetch}, {fetch, give(3)}},
		{{give(1), give(2), give(3)}, {fetch, fetch, fetch}},
		{{give(1)}, {give(2), fetch}, {fetch, give(3)}},
	} {
		for n := 1; n <= 3; n++ {
			for schedule := range trial.Lists(len(hands), 8) {
				holdWhole(t, n, hands, append(schedule, schedule...))
			}
		}
	}
}

// Fetches of one value: one tells it, the others find nothing, whatever the schedule.
func TestP7_2_FetchesOfOneValue(t *testing.T) {
	words := []uint64{1, 0, 1, 2, 4, 0}
	for schedule := range trial.Lists(3, 8) {
		x, a := belts.HoldRun(t, room(2), words, [][]api.Job{{fetch}, {fetch}, {fetch}}, schedule, 100)
		got := slices.Concat(a...)
		slices.SortFunc(got, func(a, b api.Answer) int { return int(a.Val) - int(b.Val) })
		if !x.Ended || !slices.Equal(got, []api.Answer{{}, {}, trial.Told(4)}) {
			t.Fatal(schedule, a)
		}
	}
}

// A hand that sleeps amid its turn holds up those behind it: a fetch finds nothing though a later turn stands, a give
// no place though a later one is free.
func TestP7_2_Sleepers(t *testing.T) {
	x, a := belts.HoldRun(t, room(2), fresh(t, 2), [][]api.Job{{give(7)}, {give(8), fetch, fetch}}, []int{0, 0, 0, 1, 1, 1, 1, 1, 1, 1, 0, 0}, 100)
	if !x.Ended || !slices.Equal(a[1], []api.Answer{trial.Told(1), {}, trial.Told(7)}) {
		t.Error("a give asleep", x, a)
	}
	full := []uint64{2, 0, 1, 3, 7, 8}
	x, a = belts.HoldRun(t, room(2), full, [][]api.Job{{fetch}, {fetch, give(9), give(9)}}, []int{0, 0, 0, 1, 1, 1, 1, 1, 1, 1, 0, 0}, 100)
	if !x.Ended || !slices.Equal(a[1], []api.Answer{trial.Told(8), {}, trial.Told(2)}) || a[0][0] != trial.Told(7) {
		t.Error("a fetch asleep", x, a)
	}
}

func TestP7_2_AnySchedule(t *testing.T) {
	from := trial.Source(6)
	losses := [2]int{}
	for range 1500 {
		x := holdWhole(t, 1+from.Below(5), anyJobs(&from, 1+from.Below(api.MaxHands), 12), from.Schedule(from.Below(800)))
		for h := range api.MaxHands {
			losses[tail] += trial.CountLost(x, h, tail)
			losses[head] += trial.CountLost(x, h, head)
		}
	}
	if losses[tail] < 1000 || losses[head] < 1000 {
		t.Error("too few CAS were lost", losses)
	}
}

// A run that is left in the middle goes by the line, too.
func TestP7_2_CutOff(t *testing.T) {
	from := trial.Source(7)
	for range 500 {
		n := 1 + from.Below(3)
		hands := anyJobs(&from, api.MaxHands, 6)
		x, a := belts.HoldRun(t, room(n), fresh(t, n), hands, from.Schedule(200), from.Below(200))
		newLine(n, 0).holdLine(t, n, x, hands, a)
	}
}

// A belt that is filled and emptied again and again, by hands that are in one another's way.
func TestP7_2_FilledAndEmptied(t *testing.T) {
	from := trial.Source(8)
	for n := 1; n <= api.MaxRoom; n++ {
		var hands [][]api.Job
		for h := range 3 {
			jobs := slices.Repeat([]api.Job{give(uint64(h))}, n)
			jobs = append(jobs, slices.Repeat([]api.Job{fetch}, n)...)
			hands = append(hands, jobs, append(slices.Repeat([]api.Job{fetch}, n/2), jobs...))
		}
		holdWhole(t, n, hands, from.Schedule(2000))
	}
}

// A memory that such a run has left goes on as well.
func TestP7_2_OneRunBehindTheOther(t *testing.T) {
	from := trial.Source(9)
	for n := 1; n <= 4; n++ {
		words, l := fresh(t, n), newLine(n, 0)
		for range 200 {
			words = l.holdOn(t, words, anyJobs(&from, 4, 4), from.Schedule(60)).Words
		}
	}
}

// Turns that pass 2^63, where marks begin again; and the last one, at rooms that divide 2^64.
func TestP7_2_TurnsPastTheEnds(t *testing.T) {
	from := trial.Source(10)
	for range 400 {
		n := 1 + from.Below(6)
		first := uint64(1<<63) - uint64(from.Below(8))
		if from.Below(2) == 0 {
			n = 1 << from.Below(7)
			first = -uint64(from.Below(8))
		}
		hands := anyJobs(&from, api.MaxHands, 6)
		newLine(n, first).holdOn(t, begun(n, first), hands, from.Schedule(300))
	}
}

// A tagged value tells whose it is, and that it is the hand's so-and-so-many-th.
func taggedValue(hand, i int) uint64 { return uint64(hand*api.MaxJobs + i) }

// holdInOrder fails, if a hand has fetched what another one gave in another order. Values are tagged.
func holdInOrder(t *testing.T, hands [][]api.Job, answers [][]api.Answer) {
	t.Helper()
	for h, jobs := range hands {
		next := make([]int, api.MaxHands)
		for i, j := range jobs {
			if j.Kind != belt.Fetch || !answers[h][i].OK {
				continue
			}
			whose, which := int(answers[h][i].Val)/api.MaxJobs, int(answers[h][i].Val)%api.MaxJobs
			if which < next[whose] {
				t.Fatalf("hand %d fetched number %d of hand %d behind a later one", h, which, whose)
			}
			next[whose] = which + 1
		}
	}
}

// holdFree fails, if what was given with OK is not what was fetched and what stands there, each value as often.
func holdFree(t *testing.T, n int, hands [][]api.Job) [][]api.Answer {
	t.Helper()
	w, a, e := belt.Free(room(n), hands)
	if e != api.OK || len(w) != 2+2*n || len(a) != len(hands) {
		t.Fatal(len(w), len(a), e)
	}
	holdCounts(t, w, hands, a)
	in := make([]uint64, w[tail])
	var out []uint64
	for h, jobs := range hands {
		for i, j := range jobs {
			switch x := a[h][i]; {
			case x.OK && j.Kind == belt.Give:
				in[x.Val] = j.H
			case x.OK:
				out = append(out, x.Val)
			}
		}
	}
	stand := holdStanding(t, w)
	if !slices.Equal(stand, in[w[head]:]) {
		t.Fatalf("%v stand there; want %v", stand, in[w[head]:])
	}
	in = in[:w[head]]
	slices.Sort(in)
	slices.Sort(out)
	if !slices.Equal(in, out) {
		t.Fatalf("given at the turns below the head %v; fetched %v", in, out)
	}
	return a
}

// tagged makes values tagged ones.
func tagged(hands [][]api.Job) [][]api.Job {
	for h, jobs := range hands {
		for i := range jobs {
			jobs[i].H = taggedValue(h, i)
		}
	}
	return hands
}

// Give and Fetch in turn by all hands; more Gives than Room, at the smallest rooms and others.
func TestP7_3_GiveAndFetch(t *testing.T) {
	for _, n := range []int{1, 2, 3, 8, api.MaxRoom} {
		hands := make([][]api.Job, api.MaxHands)
		for h := range hands {
			hands[h] = slices.Repeat([]api.Job{give(0), fetch}, api.MaxJobs/2)
		}
		tagged(hands)
		for range 20 {
			holdInOrder(t, hands, holdFree(t, n, hands))
		}
	}
}

// Some hands give and others fetch: one to one, one to many, many to one, many to many.
func TestP7_3_GiversAndFetchers(t *testing.T) {
	for _, c := range [][2]int{{1, 1}, {1, 7}, {7, 1}, {4, 4}} {
		for _, n := range []int{1, 2, 3, 5, 8, api.MaxRoom} {
			hands := make([][]api.Job, c[0]+c[1])
			for h := range hands {
				hands[h] = slices.Repeat([]api.Job{give(0)}, api.MaxJobs)
				if h >= c[0] {
					hands[h] = slices.Repeat([]api.Job{fetch}, api.MaxJobs)
				}
			}
			tagged(hands)
			for range 10 {
				holdInOrder(t, hands, holdFree(t, n, hands))
			}
		}
	}
}

// The same order by schedules, where both kinds are sure to meet.
func TestP7_3_InOrderByAnySchedule(t *testing.T) {
	from := trial.Source(11)
	fetched := 0
	for range 300 {
		n := 1 + from.Below(6)
		hands := tagged(anyJobs(&from, api.MaxHands, 12))
		_, a, e := belt.Play(room(n), fresh(t, n), hands, from.Schedule(1500), api.MaxSteps)
		if e != api.OK {
			t.Fatal(e)
		}
		holdInOrder(t, hands, a)
		for h, jobs := range hands {
			for i, j := range jobs {
				if j.Kind == belt.Fetch && a[h][i].OK {
					fetched++
				}
			}
		}
	}
	if fetched < 3000 {
		t.Error("too few were fetched:", fetched)
	}
}

func TestP7_3_AnyJobs(t *testing.T) {
	from := trial.Source(12)
	for range 300 {
		holdFree(t, 1+from.Below(6), anyJobs(&from, from.Below(api.MaxHands+1), 60))
	}
}

// No more Gives than Room: each is OK, whatever is fetched beside them.
func TestP7_3_NoMoreThanRoom(t *testing.T) {
	from := trial.Source(13)
	for range 300 {
		n := 1 + from.Below(api.MaxRoom)
		hands := make([][]api.Job, 1+from.Below(api.MaxHands))
		for i := range n {
			h := from.Below(len(hands))
			hands[h] = append(hands[h], give(uint64(i)))
		}
		for range from.Below(2 * api.MaxRoom) {
			h := from.Below(len(hands))
			hands[h] = slices.Insert(hands[h], from.Below(len(hands[h])+1), fetch)
		}
		for h, told := range holdFree(t, n, hands) {
			for i, x := range told {
				if hands[h][i].Kind == belt.Give && !x.OK {
					t.Fatal(n, "places, but of as many Gives one found none:", h, i)
				}
			}
		}
	}
}

// More Gives than Room, and no Fetch: just as many are OK as there are places.
func TestP7_3_MoreThanRoom(t *testing.T) {
	for _, n := range []int{1, 2, 7, api.MaxRoom} {
		hands := make([][]api.Job, api.MaxHands)
		for h := range hands {
			hands[h] = slices.Repeat([]api.Job{give(uint64(h))}, api.MaxRoom)
		}
		for range 20 {
			ok := 0
			for _, told := range holdFree(t, n, hands) {
				for _, x := range told {
					if x.OK {
						ok++
					}
				}
			}
			if ok != n {
				t.Fatal(n, ok)
			}
		}
	}
}

func TestP7_3_OneHand(t *testing.T) {
	from := trial.Source(14)
	for range 300 {
		belts.HoldOneHand(t, room(1+from.Below(3)), anyJobs(&from, 1, 20)[0])
	}
}

// With one processor, too, all hands end.
func TestP7_3_OneProcessor(t *testing.T) {
	defer runtime.GOMAXPROCS(runtime.GOMAXPROCS(1))
	from := trial.Source(15)
	for range 100 {
		holdFree(t, 2, anyJobs(&from, api.MaxHands, 100))
	}
}

// All goroutines have ended when the call answers.
func TestP7_3_NobodyLeft(t *testing.T) {
	before := runtime.NumGoroutine()
	from := trial.Source(16)
	for range 50 {
		holdFree(t, 2, anyJobs(&from, api.MaxHands, 9))
	}
	if !trial.Settles(before, runtime.NumGoroutine, runtime.Gosched) {
		t.Error(before, runtime.NumGoroutine())
	}
}
