package deal_test

import (
	"runtime"
	"slices"
	"testing"

	"midden/api"
	"midden/deal"
	"midden/trial"
)

// All schedules of the first steps; behind them the hands take turns.
func TestP8_2_EverySchedule(t *testing.T) {
	for n := 1; n <= 2; n++ {
		for schedule := range trial.Lists(2, 12) {
			holdWhole(t, n, [][]api.Job{{lay(1), draw}, {steal}}, schedule)
			holdWhole(t, n, [][]api.Job{{lay(1), lay(2), draw, draw}, {steal, steal}}, append([]int{0, 0, 0, 0}, schedule...))
		}
	}
	for n := 1; n <= 3; n++ {
		for schedule := range trial.Lists(3, 7) {
			holdWhole(t, n, [][]api.Job{{lay(1), lay(2), draw, lay(3), draw}, {steal, steal}, {steal}}, slices.Concat(schedule, schedule, schedule))
		}
	}
}

// From few values on, all schedules of one Draw and Steals beside it: just as many are told as there are, each once.
func TestP8_2_LastValues(t *testing.T) {
	for _, c := range []struct{ values, thieves, length int }{{1, 1, 10}, {2, 1, 10}, {1, 2, 9}, {2, 2, 9}, {3, 2, 9}} {
		values := []uint64{5, 6, 7}[:c.values]
		hands := append([][]api.Job{{draw}}, slices.Repeat([][]api.Job{{steal}}, c.thieves)...)
		for schedule := range trial.Lists(len(hands), c.length) {
			_, a := (&row{there: values}).holdOn(t, filled(3, 4, values...), hands, schedule)
			var got []uint64
			for _, told := range slices.Concat(a...) {
				if told.OK {
					got = append(got, told.Val)
				}
			}
			if slices.Sort(got); !slices.Equal(got, values[:min(c.values, len(hands))]) {
				t.Fatal(c, schedule, a)
			}
		}
	}
}

// A Steal that has loaded a place whose value is gone by its CAS: another one may stand there, but isn't told.
func TestP8_2_PlaceLaidAgain(t *testing.T) {
	for n := 1; n <= 3; n++ {
		hands := [][]api.Job{nil, {steal}, nil}
		schedule := []int{1, 1, 1}
		words := filled(n, 8, []uint64{5, 6, 7}[:n]...)
		for i := range n {
			hands[0] = append(hands[0], lay(20+uint64(i)))
			hands[2] = append(hands[2], steal)
			schedule = append(schedule, 2, 2, 2, 2, 0, 0, 0, 0)
		}
		x, a := (&row{there: []uint64{5, 6, 7}[:n]}).holdOn(t, words, hands, schedule)
		if a[1][0] != trial.Told(20) || trial.CountLost(x, 1, top) != 1 {
			t.Error(n, x, a)
		}
	}
}

func TestP8_2_AnySchedule(t *testing.T) {
	from := trial.Source(6)
	own, others := 0, 0
	for range 2000 {
		x, _ := holdWhole(t, 1+from.Below(4), anyJobs(&from, 1+from.Below(api.MaxHands), 20), from.Schedule(from.Below(600)))
		own += trial.CountLost(x, 0, top)
		for h := 1; h < api.MaxHands; h++ {
			others += trial.CountLost(x, h, top)
		}
	}
	if own < 200 || others < 1000 {
		t.Error("too few CAS were lost", own, others)
	}
}

// A run that is left in the middle: no value is told more often than it was laid.
func TestP8_2_CutOff(t *testing.T) {
	from := trial.Source(7)
	for range 1000 {
		n := 1 + from.Below(3)
		hands := anyJobs(&from, 1+from.Below(api.MaxHands), 12)
		x, a := deals.HoldRun(t, room(n), fresh(t, n), hands, from.Schedule(150), from.Below(150))
		(&row{}).holdRow(t, n, x, hands, a)
		for v, left := range outgoing(hands, a) {
			if left < 0 {
				t.Fatal(v, left, hands, a)
			}
		}
	}
}

// A memory that such a run has left goes on as well.
func TestP8_2_OneRunBehindTheOther(t *testing.T) {
	from := trial.Source(8)
	for n := 1; n <= 4; n++ {
		words, r := fresh(t, n), &row{}
		for range 200 {
			x, _ := r.holdOn(t, words, anyJobs(&from, 4, 6), from.Schedule(60))
			words = x.Words
		}
	}
}

// Numbers that pass 2^63; and the last one, at rooms that divide 2^64.
func TestP8_2_NumbersPastTheEnds(t *testing.T) {
	from := trial.Source(9)
	for range 600 {
		n := 1 + from.Below(6)
		first := uint64(1<<63) - uint64(from.Below(8))
		if from.Below(2) == 0 {
			n = 1 << from.Below(7)
			first = -uint64(from.Below(8))
		}
		(&row{}).holdOn(t, filled(n, first), anyJobs(&from, 1+from.Below(api.MaxHands), 20), from.Schedule(300))
	}
}

// holdFree fails, if what was laid is not what was drawn and stolen and what stands there, each value as often.
func holdFree(t *testing.T, n int, hands [][]api.Job) [][]api.Answer {
	t.Helper()
	w, a, e := deal.Free(room(n), hands)
	if e != api.OK || len(w) != 2+n || len(a) != len(hands) {
		t.Fatal(len(w), len(a), e)
	}
	holdEach(t, hands, a, standing(t, w))
	return a
}

// numbered: the owner's jobs, each Lay with another value, the later the greater, and as many Steals for each thief.
func numbered(own []api.Job, thieves, steals int) [][]api.Job {
	hands := [][]api.Job{slices.Clone(own)}
	for i := range own {
		hands[0][i].H = uint64(i) + 1
	}
	return append(hands, slices.Repeat([][]api.Job{slices.Repeat([]api.Job{steal}, steals)}, thieves)...)
}

// patterns: ways in which an owner lays and draws.
func patterns() [][]api.Job {
	var out [][]api.Job
	for _, p := range [][]api.Job{{lay(0)}, {lay(0), draw}, {lay(0), lay(0), draw}, {lay(0), lay(0), lay(0), draw, draw, draw}, {lay(0), steal}, {lay(0), lay(0), draw, steal}} {
		out = append(out, slices.Repeat(p, api.MaxJobs/len(p)))
	}
	return out
}

func TestP8_2_FreeOwnerAndThieves(t *testing.T) {
	for _, own := range patterns() {
		for _, thieves := range []int{1, 3, 7} {
			for _, n := range []int{1, 2, 3, 8, api.MaxRoom} {
				hands := numbered(own, thieves, api.MaxJobs)
				for range 5 {
					holdFree(t, n, hands)
				}
			}
		}
	}
}

func TestP8_2_FreeAnyJobs(t *testing.T) {
	from := trial.Source(10)
	for range 500 {
		holdFree(t, 1+from.Below(6), anyJobs(&from, from.Below(api.MaxHands+1), 60))
	}
}

// Thieves alone, without anything to steal.
func TestP8_2_FreeWithoutOwner(t *testing.T) {
	for _, told := range slices.Concat(holdFree(t, 3, numbered(nil, 7, api.MaxJobs))...) {
		if told.OK {
			t.Fatal(told)
		}
	}
}

// With one processor, too, all hands end.
func TestP8_2_FreeOneProcessor(t *testing.T) {
	defer runtime.GOMAXPROCS(runtime.GOMAXPROCS(1))
	from := trial.Source(11)
	for range 100 {
		holdFree(t, 2, anyJobs(&from, api.MaxHands, 100))
	}
}

// All goroutines have ended when the call answers.
func TestP8_2_FreeNobodyLeft(t *testing.T) {
	before := runtime.NumGoroutine()
	from := trial.Source(12)
	for range 50 {
		holdFree(t, 2, anyJobs(&from, api.MaxHands, 9))
	}
	if !trial.Settles(before, runtime.NumGoroutine, runtime.Gosched) {
		t.Error(before, runtime.NumGoroutine())
	}
}

// alone: what hand 0's jobs tell by P8.3, of a list of at most n values.
func alone(n int, jobs []api.Job) []api.Answer {
	var there []uint64
	var out []api.Answer
	for _, j := range jobs {
		told, last := api.Answer{}, len(there)-1
		switch {
		case j.Kind == deal.Lay && last+1 < n:
			there, told = append(there, j.H), trial.Told(j.H)
		case j.Kind == deal.Draw && last >= 0:
			there, told = there[:last], trial.Told(there[last])
		case j.Kind == deal.Steal && last >= 0:
			there, told = there[1:], trial.Told(there[0])
		}
		out = append(out, told)
	}
	return out
}

// holdAlone fails, if hand 0 alone tells anything else, from whatever number on.
func holdAlone(t *testing.T, n int, first uint64, jobs []api.Job) {
	t.Helper()
	_, a, e := deal.Play(room(n), filled(n, first), [][]api.Job{jobs}, nil, api.MaxSteps)
	if want := alone(n, jobs); e != api.OK || !slices.Equal(a[0], want) {
		t.Fatalf("%d places, from %d on: %v: %v %v; want %v", n, first, jobs, a, e, want)
	}
}

// Lay, Draw and Steal in every order.
func TestP8_3_EveryOrder(t *testing.T) {
	for n := 1; n <= 3; n++ {
		for kinds := range trial.Lists(3, 8) {
			var jobs []api.Job
			for i, k := range kinds {
				jobs = append(jobs, api.Job{Kind: deal.Lay + k, H: 10 + uint64(i)})
			}
			holdAlone(t, n, 0, jobs)
		}
	}
}

// Long lists of jobs, at all rooms, and at numbers from both ends on, as far as the room allows.
func TestP8_3_AnyJobs(t *testing.T) {
	from := trial.Source(13)
	for n := 1; n <= api.MaxRoom; n++ {
		for range 20 {
			var jobs []api.Job
			for range api.MaxJobs {
				jobs = append(jobs, anyJob(&from, 0))
			}
			holdAlone(t, n, 0, jobs)
			holdAlone(t, n, 1<<63-1-uint64(from.Below(100)), jobs)
			if n&(n-1) == 0 {
				holdAlone(t, n, -uint64(from.Below(100)), jobs)
			}
		}
	}
}

func TestP8_3_FreeOneHand(t *testing.T) {
	from := trial.Source(14)
	for range 300 {
		n, jobs := 1+from.Below(4), anyJobs(&from, 1, 30)[0]
		deals.HoldOneHand(t, room(n), jobs)
		if a := holdFree(t, n, [][]api.Job{jobs, nil, {}}); !slices.Equal(a[0], alone(n, jobs)) {
			t.Fatal(n, jobs, a)
		}
	}
}

// oks: the values that a hand was told with OK by such jobs, in order.
func oks(kind int, jobs []api.Job, answers []api.Answer) []uint64 {
	var out []uint64
	for i, told := range answers {
		if told.OK && jobs[i].Kind == kind {
			out = append(out, told.Val)
		}
	}
	return out
}

func rising(values []uint64) bool {
	for i := 1; i < len(values); i++ {
		if values[i-1] >= values[i] {
			return false
		}
	}
	return true
}

// What the thieves' CAS took, in the order in which they were done, rises as it was laid.
func TestP8_4_InOrder(t *testing.T) {
	from := trial.Source(15)
	for _, own := range patterns() {
		for range 40 {
			n := 1 + from.Below(8)
			hands := numbered(own[:60], 1+from.Below(7), 40)
			x, a, e := deal.Play(room(n), fresh(t, n), hands, from.Schedule(2000), api.MaxSteps)
			if e != api.OK || !x.Ended {
				t.Fatal(e, x.Ended)
			}
			told := make([][]uint64, len(hands))
			for h := range hands {
				told[h] = oks(deal.Steal, hands[h], a[h])
			}
			var stolen []uint64
			for _, s := range x.Steps {
				if h := s.Hand; h > 0 && s.Act == api.CAS && s.OK {
					stolen, told[h] = append(stolen, told[h][0]), told[h][1:]
				}
			}
			if len(stolen) == 0 || !rising(stolen) {
				t.Fatal(n, hands, stolen)
			}
		}
	}
}

// Free: what one hand has stolen rises, whatever the others take.
func TestP8_4_FreeInOrder(t *testing.T) {
	for _, own := range patterns() {
		for _, n := range []int{1, 2, 5, api.MaxRoom} {
			hands := numbered(own, 7, api.MaxJobs)
			for range 10 {
				for h, told := range holdFree(t, n, hands) {
					if stolen := oks(deal.Steal, hands[h], told); !rising(stolen) {
						t.Fatal(n, h, stolen)
					}
				}
			}
		}
	}
}

// against tells, whether another hand's CAS of top was done since the hand's last load of top ahead of that step.
func against(x api.Trace, at int) bool {
	hand := x.Steps[at].Hand
	for i := at - 1; i >= 0; i-- {
		s := x.Steps[i]
		if s.At != top {
			continue
		}
		if s.Hand == hand && s.Act == api.Load {
			return false
		}
		if s.Hand != hand && s.Act == api.CAS && s.OK {
			return true
		}
	}
	return false
}

// From words of all kinds: each CAS that isn't done stands against one that is.
func TestP8_5_NotForNothing(t *testing.T) {
	from := trial.Source(16)
	lost := 0
	for range 3000 {
		n := 1 + from.Below(6)
		words := anyWords(&from, n)
		if from.Below(2) == 0 {
			words = fresh(t, n)
		}
		hands := anyJobs(&from, 1+from.Below(api.MaxHands), 15)
		x, _, e := deal.Play(room(n), words, hands, from.Schedule(300), from.Below(600))
		if e != api.OK {
			t.Fatal(e)
		}
		for i, s := range x.Steps {
			if s.Act != api.CAS || s.OK {
				continue
			}
			lost++
			if !against(x, i) {
				t.Fatalf("step %d of %v", i, x)
			}
		}
	}
	if lost < 1000 {
		t.Error("too few CAS were lost:", lost)
	}
}

// One after the other, thieves lose no CAS: each has what is there, in as many steps as it needs.
func TestP8_5_OneAfterTheOther(t *testing.T) {
	for n := 1; n <= api.MaxRoom; n++ {
		hands := numbered(slices.Repeat([]api.Job{lay(0)}, n), 7, n)
		x, a := holdWhole(t, n, hands, make([]int, 20*n))
		for h := range hands {
			if trial.CountLost(x, h, top) != 0 {
				t.Fatal(n, h)
			}
		}
		if len(x.Steps) != 4*n+4*n+2*6*n || len(oks(deal.Steal, hands[1], a[1])) != n {
			t.Fatal(n, len(x.Steps), a)
		}
	}
}
