package bell_test

import (
	"runtime"
	"slices"
	"testing"

	"midden/api"
	"midden/bell"
	"midden/trial"
)

// Rings of Room hands in every order of their steps: behind each step none is ahead of the others, one at most has let
// go; and from there on all come to the end.
func TestP9_2_EveryOrder(t *testing.T) {
	for _, c := range []struct{ hands, each, spots int }{{1, 4, 17}, {2, 1, 0}, {2, 4, 0}, {3, 1, 0}, {3, 2, 0}, {4, 1, 0}} {
		spots := everyOrder(t, room(c.hands), make([]uint64, 2), alike(c.hands, c.each), func(schedule []int) {
			holdWhole(t, c.hands, c.each, schedule)
		})
		if spots < 4*c.hands*c.each || c.spots > 0 && spots != c.spots {
			t.Error(c, spots)
		}
	}
}

// Hands with unlike numbers of Rings: as many rounds as the one with the fewest has.
func TestP9_2_UnlikeInEveryOrder(t *testing.T) {
	for _, each := range [][]int{{0, 1}, {1, 0}, {1, 2}, {3, 2}, {1, 2, 1}, {0, 1, 1}, {2, 1, 2}} {
		hands := rings(each...)
		everyOrder(t, room(len(each)), make([]uint64, 2), hands, func(schedule []int) {
			x, a := holdRounds(t, hands, schedule, len(schedule)+60)
			more := 0
			for h := range each {
				if len(a[h]) != slices.Min(each) {
					t.Fatal(each, schedule, a)
				}
				if each[h] > slices.Min(each) {
					more++
				}
			}
			if x.Ended || !slices.Equal(x.Words, []uint64{uint64(more), uint64(slices.Min(each))}) {
				t.Fatal(each, schedule, x.Words)
			}
		})
	}
}

func TestP9_2_AnySchedule(t *testing.T) {
	from := trial.Source(8)
	for range 1500 {
		holdWhole(t, 1+from.Below(api.MaxHands), from.Below(12), from.Schedule(from.Below(800)))
	}
}

// Runs that are left in the middle.
func TestP9_2_CutOff(t *testing.T) {
	from := trial.Source(9)
	for range 2000 {
		hands := anyJobs(&from, 1+from.Below(api.MaxHands), 8)
		if from.Below(2) == 0 {
			hands = alike(1+from.Below(api.MaxHands), 8)
		}
		holdRounds(t, hands, from.Schedule(300), from.Below(300))
	}
}

// One hand is slow, wherever it stands behind some turns of all: the others wait for its next add, and no longer, but
// where it is the last one, and hasn't let them go yet.
func TestP9_2_OneIsSlow(t *testing.T) {
	const each = 4
	for n := 2; n <= api.MaxHands; n++ {
		for slow := range n {
			for turns := range 5 * n {
				var schedule []int
				for i := range turns {
					schedule = append(schedule, i%n)
				}
				for i := range 40 * n {
					schedule = append(schedule, (slow+1+i%(n-1))%n)
				}
				x, a := holdRounds(t, alike(n, each), schedule, len(schedule))
				passed := 0
				for _, s := range x.Steps {
					switch {
					case s.Hand != slow:
					case s.Act == api.Add && s.Put < uint64(n), s.Act == api.Store && s.At == round:
						passed++
					}
				}
				for h := range a {
					if h != slow && len(a[h]) != passed {
						t.Fatal(n, slow, turns, passed, a)
					}
				}
				holdWhole(t, n, each, schedule)
			}
		}
	}
}

// Whoever rings last lets go: one hand after the other.
func TestP9_3_WhoRingsLast(t *testing.T) {
	for n := 1; n <= api.MaxHands; n++ {
		var schedule []int
		for k := range 2 * n {
			last := k % n
			for h := range n {
				if h != last {
					schedule = append(schedule, h, h)
				}
			}
			schedule = append(schedule, last, last, last, last)
			for h := range n {
				if h != last {
					schedule = append(schedule, h)
				}
			}
		}
		x, a := holdRounds(t, alike(n, 2*n+1), schedule, len(schedule)) // with one Ring more, so that all go on
		if !slices.Equal(x.Words, []uint64{0, uint64(2 * n)}) {
			t.Fatal(n, x.Words)
		}
		for h := range a {
			for k, told := range a[h] {
				if told.OK != (k%n == h) {
					t.Fatal(n, h, k, told)
				}
			}
		}
		holdWhole(t, n, 2*n+1, schedule)
	}
}

// A memory that such a run has left goes on as well, from its round on.
func TestP9_3_OneRunBehindTheOther(t *testing.T) {
	from := trial.Source(10)
	for n := 1; n <= api.MaxHands; n++ {
		words := make([]uint64, 2)
		for range 30 {
			first, each := words[round], from.Below(5)
			x, a := bells.HoldRun(t, room(n), words, alike(n, each), from.Schedule(from.Below(200)), api.MaxSteps)
			for h := range a {
				for k := range a[h] {
					a[h][k].Val -= first
				}
			}
			holdOneLetsGo(t, a)
			if words = x.Words; !x.Ended || !slices.Equal(words, []uint64{0, first + uint64(each)}) {
				t.Fatal(n, first, each, words)
			}
		}
	}
}

// Without a schedule, and behind schedules that pick some hands alone, as long as they go on.
func TestP9_4_GoesOn(t *testing.T) {
	for n := 1; n <= api.MaxHands; n++ {
		for _, each := range []int{0, 1, 2, 20} {
			holdWhole(t, n, each, nil)
			for h := range n {
				holdWhole(t, n, each, slices.Repeat([]int{h}, 100))
				holdWhole(t, n, each, slices.Repeat([]int{h, n - 1}, 50))
			}
		}
	}
}

// holdFree fails, if Rings that run free don't end in as many rounds, with one who lets go in each.
func holdFree(t *testing.T, n, each int) {
	t.Helper()
	w, a, e := bell.Free(room(n), alike(n, each))
	if e != api.OK || !slices.Equal(w, []uint64{0, uint64(each)}) || len(a) != n {
		t.Fatal(n, each, w, len(a), e)
	}
	for h := range a {
		if len(a[h]) != each {
			t.Fatal(n, each, h, a[h])
		}
	}
	holdOneLetsGo(t, a)
}

func TestP9_4_Free(t *testing.T) {
	for n := 1; n <= api.MaxHands; n++ {
		for _, each := range []int{0, 1, 2, 3, 17} {
			for range 10 {
				holdFree(t, n, each)
			}
		}
		holdFree(t, n, api.MaxJobs) // once: on a machine that has much else to do each round takes long
	}
}

// One Ring each, again and again: they meet at the beginning.
func TestP9_4_FreeOftenOneRing(t *testing.T) {
	for range 2000 {
		holdFree(t, api.MaxHands, 1)
		holdFree(t, 2, 1)
	}
}

func TestP9_4_FreeOneHand(t *testing.T) {
	for each := range 20 {
		bells.HoldOneHand(t, room(1), alike(1, each)[0])
	}
}

// With one processor, too, those who wait let the others by.
func TestP9_4_FreeOneProcessor(t *testing.T) {
	defer runtime.GOMAXPROCS(runtime.GOMAXPROCS(1))
	for n := 1; n <= api.MaxHands; n++ {
		holdFree(t, n, api.MaxJobs)
	}
}

// All goroutines have ended when the call answers.
func TestP9_4_FreeNobodyLeft(t *testing.T) {
	before := runtime.NumGoroutine()
	for range 50 {
		holdFree(t, api.MaxHands, 9)
		bell.Free(room(2), rings(1, 2))
	}
	if !trial.Settles(before, runtime.NumGoroutine, runtime.Gosched) {
		t.Error(before, runtime.NumGoroutine())
	}
}
