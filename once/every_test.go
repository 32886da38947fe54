package once_test

import (
	"runtime"
	"testing"

	"midden/api"
	"midden/once"
)

// holdOnce fails, if words and answers at a run's end are not what P4.2 promises.
func holdOnce(t *testing.T, room int, hands [][]api.Job, words []uint64, answers [][]api.Answer) {
	t.Helper()
	if len(words) != 2*room || len(answers) != len(hands) {
		t.Fatal(len(words), len(answers))
	}
	firsts, asked, state, count := make([]int, room), make([]bool, room), make([]uint64, room), make([]uint64, room)
	for h, jobs := range hands {
		if len(answers[h]) != len(jobs) {
			t.Fatalf("hand %d: %v for %v", h, answers[h], jobs)
		}
		mine := make([]bool, room) // what this hand itself has seen done
		for i, j := range jobs {
			a := answers[h][i]
			switch {
			case j.Kind == once.Seen:
				if a.Val > 2 || a.OK != (a.Val == 2) || mine[j.A] && !a.OK {
					t.Fatalf("hand %d, %v: %v", h, j, a)
				}
				mine[j.A] = mine[j.A] || a.OK
				continue
			case a.Val == 1 && a.OK == (j.Kind == once.Do) && !mine[j.A]:
				firsts[j.A]++
				if j.Kind == once.Do {
					count[j.A] = 1
				}
			case a != later:
				t.Fatalf("hand %d, %v: %v", h, j, a)
			}
			asked[j.A], mine[j.A], state[j.A] = true, true, 2
		}
	}
	for k := range room {
		if asked[k] && firsts[k] != 1 || words[k] != state[k] || words[room+k] != count[k] {
			t.Fatalf("key %d: %d were first, the state is %d, the count %d; %v, %v", k, firsts[k], words[k], words[room+k], hands, answers)
		}
	}
}

// holdWaiting fails, if behind some number of steps a Do or a Fail has told its answer, but 2 isn't stored yet.
func holdWaiting(t *testing.T, room int, hands [][]api.Job, schedule []int, steps int) {
	t.Helper()
	fresh, _ := once.Fresh(api.Shape{Room: room})
	for most := range steps {
		x, a, e := once.Play(api.Shape{Room: room}, fresh, hands, schedule, most)
		if e != api.OK || x.Ended {
			t.Fatal(most, x, e)
		}
		for h := range a {
			for i := range a[h] {
				if j := hands[h][i]; j.Kind != once.Seen && x.Words[j.A] != 2 {
					t.Fatalf("%v, %v: behind %d steps hand %d has ended %v", hands, schedule, most, h, j)
				}
			}
		}
	}
}

func holdSchedule(t *testing.T, room int, hands [][]api.Job, schedule []int, most int) {
	t.Helper()
	x, a := holdRun(t, make([]uint64, 2*room), hands, schedule, most)
	if !x.Ended {
		t.Fatal(hands, schedule, x)
	}
	holdOnce(t, room, hands, x.Words, a)
	holdWaiting(t, room, hands, schedule, len(x.Steps))
}

// All schedules of the first steps; behind them the hands take turns.
func TestP4_2_EverySchedule(t *testing.T) {
	for _, one := range []api.Job{doIt, failIt} {
		for _, two := range []api.Job{doIt, failIt} {
			for schedule := range schedules(2, 9) {
				holdSchedule(t, 1, [][]api.Job{{one, seenIt}, {two, seenIt}}, schedule, 40)
			}
		}
	}
	for schedule := range schedules(3, 7) {
		holdSchedule(t, 1, [][]api.Job{{doIt}, {failIt}, {doIt}}, schedule, 40)
	}
	for schedule := range schedules(2, 10) {
		holdSchedule(t, 2, [][]api.Job{{doIt, {Kind: once.Fail, A: 1}}, {{Kind: once.Do, A: 1}, failIt}}, schedule, 40)
	}
}

func TestP4_2_AnySchedule(t *testing.T) {
	from := source(4)
	for range 400 {
		room := 1 + from.below(3)
		hands := from.jobs(1+from.below(api.MaxHands), 5, room)
		holdSchedule(t, room, hands, from.schedule(from.below(120)), 2000)
	}
}

// Keys for which only Seen came, or nothing, stay as they began.
func TestP4_2_KeysThatNobodyDoes(t *testing.T) {
	hands := [][]api.Job{{{Kind: once.Seen, A: 0}, {Kind: once.Do, A: 1}}, {{Kind: once.Seen, A: 2}}}
	x, a := holdRun(t, make([]uint64, 8), hands, nil, 20)
	holdOnce(t, 4, hands, x.Words, a)
	w, a, e := once.Free(api.Shape{Room: 4}, hands)
	if e != api.OK {
		t.Fatal(e)
	}
	holdOnce(t, 4, hands, w, a)
}

func TestP4_3_FreeAtOneKey(t *testing.T) {
	for _, jobs := range [][]api.Job{{doIt}, {failIt}, {seenIt, doIt, seenIt, failIt, seenIt}} {
		hands := make([][]api.Job, api.MaxHands)
		for h := range hands {
			hands[h] = jobs
		}
		for range 300 {
			w, a, e := once.Free(api.Shape{Room: 1}, hands)
			if e != api.OK {
				t.Fatal(e)
			}
			holdOnce(t, 1, hands, w, a)
		}
	}
}

func TestP4_3_FreeOfAnyJobs(t *testing.T) {
	from := source(5)
	for range 500 {
		room := 1 + from.below(4)
		hands := from.jobs(from.below(api.MaxHands+1), 30, room)
		w, a, e := once.Free(api.Shape{Room: room}, hands)
		if e != api.OK {
			t.Fatal(e)
		}
		holdOnce(t, room, hands, w, a)
	}
}

// With one processor a hand that waits must let the one by that it waits for.
func TestP4_3_FreeOnOneProcessor(t *testing.T) {
	defer runtime.GOMAXPROCS(runtime.GOMAXPROCS(1))
	from := source(6)
	for range 200 {
		hands := from.jobs(api.MaxHands, 60, 2)
		w, a, e := once.Free(api.Shape{Room: 2}, hands)
		if e != api.OK {
			t.Fatal(e)
		}
		holdOnce(t, 2, hands, w, a)
	}
}

// By one hand alone there is nothing to choose: free and by any schedule it is one and the same.
func TestP4_3_FreeByOneHand(t *testing.T) {
	from := source(7)
	for range 300 {
		room := 1 + from.below(3)
		hands := from.jobs(1, 20, room)
		x, a := model(make([]uint64, 2*room), hands, nil, 500)
		w, b, e := once.Free(api.Shape{Room: room}, hands)
		if e != api.OK || !x.Ended || !sameTrace(x, api.Trace{Steps: x.Steps, Words: w, Ended: true}) || !sameAnswers(a, b) {
			t.Fatal(hands, w, b, e)
		}
	}
}

// All goroutines have ended when the call answers. (One that has told so may need a moment to be gone.)
func TestP4_3_NobodyLeft(t *testing.T) {
	before := runtime.NumGoroutine()
	from := source(8)
	for range 50 {
		once.Free(api.Shape{Room: 2}, from.jobs(api.MaxHands, 9, 2))
	}
	for range 1000000 {
		if runtime.NumGoroutine() <= before {
			return
		}
		runtime.Gosched()
	}
	t.Error(before, runtime.NumGoroutine())
}
