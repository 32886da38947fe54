package seq_test

import (
	"math"
	"runtime"
	"slices"
	"testing"

	"midden/api"
	"midden/seq"
	"midden/trial"
)

// Writes and Reads in every order of their steps: behind each step no Read was torn or late; and from there on all come
// to the end.
func TestP10_2_EveryOrder(t *testing.T) {
	for _, c := range []struct {
		room, least int
		hands       [][]api.Job
	}{
		{1, 20, [][]api.Job{{write(5)}, {read}}},
		{2, 30, [][]api.Job{{write(5)}, {read}}},
		{4, 40, [][]api.Job{{write(5)}, {read}}},
		{2, 50, [][]api.Job{{write(0)}, {read, read}}},
		{2, 50, [][]api.Job{writes(5, 6), {read}}},
		{1, 50, [][]api.Job{writes(5, 0, 5), {read, read}}},
		{2, 50, [][]api.Job{{read, write(math.MaxUint64), read}, {read}}},
		{1, 100, [][]api.Job{writes(5, 6), {read}, {read}}},
		{2, 100, [][]api.Job{{write(5)}, {read}, {read}}},
		{1, 100, [][]api.Job{{write(5)}, {read}, {read}, {read}}},
		{2, 100, [][]api.Job{nil, {read}, {read}, {read}}},
	} {
		spots := everyOrder(t, c.room, make([]uint64, 1+c.room), c.hands, func(schedule []int) {
			holdWhole(t, c.room, c.hands, schedule)
		})
		if spots < c.least {
			t.Error(c, spots)
		}
	}
}

// The same by all schedules up to a length, each played to its end.
func TestP10_2_EverySchedule(t *testing.T) {
	for schedule := range trial.Lists(2, 13) {
		holdWhole(t, 1, [][]api.Job{writes(5, 6), {read, read}}, schedule)
	}
	for schedule := range trial.Lists(3, 8) {
		holdWhole(t, 2, [][]api.Job{{write(5)}, {read}, {read}}, schedule)
	}
}

func TestP10_2_AnySchedule(t *testing.T) {
	from := trial.Source(6)
	for range 1500 {
		n := 1 + from.Below(8)
		holdWhole(t, n, anyJobs(&from, 1+from.Below(api.MaxHands), 12), from.Schedule(from.Below(800)))
	}
}

// Runs that are left in the middle.
func TestP10_2_CutOff(t *testing.T) {
	from := trial.Source(7)
	for range 2000 {
		n := 1 + from.Below(8)
		holdUntorn(t, n, anyJobs(&from, 1+from.Below(api.MaxHands), 8), from.Schedule(300), from.Below(300))
	}
}

// The writer stands still: no Read ends, where that is amid a Write; and when it goes on, all do.
func TestP10_2_WriterIsSlow(t *testing.T) {
	for _, n := range []int{1, 2, 5, api.MaxRoom} {
		for made := range n + 4 {
			hands := [][]api.Job{writes(5, 6), reads(4), reads(4)} // more than are played, so that all go on
			schedule := make([]int, made)
			for i := range 20 * (n + 2) {
				schedule = append(schedule, 1+i%2)
			}
			_, a := holdUntorn(t, n, hands, schedule[:made+6*(n+2)], made+6*(n+2))
			want := 3
			if made >= 2 && made < n+3 {
				want = 0
			}
			if len(a[1]) != want || len(a[2]) != want {
				t.Error(n, made, a)
			}
			holdWhole(t, n, hands, schedule)
		}
	}
}

// A reader stands still amid a Read, and Writes go by, as many as there are: it has the last one's value.
func TestP10_2_ReaderIsSlow(t *testing.T) {
	for _, n := range []int{1, 2, 5, api.MaxRoom} {
		for made := range n + 2 {
			for by := range 4 {
				schedule := slices.Concat(slices.Repeat([]int{1}, made), make([]int, by*(n+3)), slices.Repeat([]int{1}, 2*(n+2)))
				_, a := holdWhole(t, n, [][]api.Job{writes(7, 8, 9, 10), {read}}, schedule)
				if want := []uint64{0, 7, 8, 9}[by]; a[1][0] != trial.Told(want) {
					t.Error(n, made, by, a)
				}
			}
		}
	}
}

// Hand 0 reads what it wrote last; others stand amid their Reads all the while.
func TestP10_2_WriterReads(t *testing.T) {
	from := trial.Source(8)
	hands := [][]api.Job{{read, write(5), read, read, write(0), read, write(5), read}, reads(4), reads(4)}
	for range 300 {
		_, a := holdWhole(t, 1+from.Below(5), hands, from.Schedule(from.Below(200)))
		want := []api.Answer{trial.Told(0), trial.Told(2), trial.Told(5), trial.Told(5), trial.Told(4), trial.Told(0), trial.Told(6), trial.Told(5)}
		if !slices.Equal(a[0], want) {
			t.Fatal(a[0])
		}
	}
}

// A memory that such a run has left goes on as well, from its version and its value on.
func TestP10_2_OneRunBehindTheOther(t *testing.T) {
	from := trial.Source(9)
	for _, n := range []int{1, 3, api.MaxRoom} {
		words := make([]uint64, 1+n)
		for range 30 {
			hands := anyJobs(&from, 1+from.Below(api.MaxHands), 4)
			x, a := seqs.HoldRun(t, room(n), words, hands, from.Schedule(from.Below(200)), api.MaxSteps)
			values := append([]uint64{words[1]}, valuesOf(hands)...)
			for h := range a {
				for k, told := range a[h] {
					if !told.OK || hands[h][k].Kind == seq.Read && !slices.Contains(values, told.Val) {
						t.Fatal(n, values, told)
					}
				}
			}
			want := filled(n, words[version]+uint64(2*len(values)-2), values[len(values)-1])
			if words = x.Words; !x.Ended || !slices.Equal(words, want) {
				t.Fatal(n, words, want)
			}
		}
	}
}

// holdFree fails, if Writes and Reads that run free don't end in the last value, or if a hand reads otherwise than along
// the list of values.
func holdFree(t *testing.T, n int, hands [][]api.Job) {
	t.Helper()
	w, a, e := seq.Free(room(n), hands)
	if e != api.OK || !slices.Equal(w, afterAll(n, hands)) || len(a) != len(hands) {
		t.Fatal(n, w, len(a), e)
	}
	version := uint64(0)
	for h := range a {
		if len(a[h]) != len(hands[h]) {
			t.Fatal(n, h, a[h])
		}
		for k, told := range a[h] {
			if hands[h][k].Kind != seq.Write {
				continue
			}
			if version += 2; told != trial.Told(version) {
				t.Fatal(n, k, told)
			}
		}
	}
	holdAlong(t, hands, a)
}

// risingWrites: so many, with values that come once each.
func risingWrites(n int) []api.Job {
	var values []uint64
	for k := range n {
		values = append(values, uint64(k)*0x0123456789abcdef+1)
	}
	return writes(values...)
}

func TestP10_3_Free(t *testing.T) {
	for _, n := range []int{1, 2, 3, 8, api.MaxRoom} {
		for range 10 {
			holdFree(t, n, [][]api.Job{risingWrites(api.MaxJobs)})
			holdFree(t, n, [][]api.Job{nil, reads(9), reads(api.MaxJobs)})
			holdFree(t, n, slices.Repeat([][]api.Job{reads(20)}, api.MaxHands))
			holdFree(t, n, append([][]api.Job{risingWrites(api.MaxJobs)}, slices.Repeat([][]api.Job{reads(api.MaxJobs)}, api.MaxHands-1)...))
			holdFree(t, n, [][]api.Job{slices.Concat(reads(3), risingWrites(100), reads(3), writes(0, 7, 0, 7), reads(1)), reads(50), nil, reads(200)})
		}
		holdFree(t, n, nil)
		holdFree(t, n, make([][]api.Job, api.MaxHands))
	}
}

func TestP10_3_FreeAnyJobs(t *testing.T) {
	from := trial.Source(10)
	for range 500 {
		holdFree(t, 1+from.Below(api.MaxRoom), anyJobs(&from, from.Below(api.MaxHands+1), 20))
	}
}

// One Write and a Read each, again and again: they meet at the beginning.
func TestP10_3_FreeOftenOneEach(t *testing.T) {
	for range 2000 {
		holdFree(t, 2, append([][]api.Job{{write(9)}}, slices.Repeat([][]api.Job{{read}}, api.MaxHands-1)...))
		holdFree(t, api.MaxRoom, [][]api.Job{{write(9)}, {read}})
	}
}

func TestP10_3_FreeOneHand(t *testing.T) {
	from := trial.Source(11)
	for n := 1; n <= api.MaxRoom; n++ {
		seqs.HoldOneHand(t, room(n), append(anyJobs(&from, 1, 20)[0], write(uint64(n)), read))
	}
}

// With one processor, too, those who wait for the end of a Write let hand 0 by.
func TestP10_3_FreeOneProcessor(t *testing.T) {
	defer runtime.GOMAXPROCS(runtime.GOMAXPROCS(1))
	for _, n := range []int{1, 8, api.MaxRoom} {
		holdFree(t, n, append([][]api.Job{risingWrites(api.MaxJobs)}, slices.Repeat([][]api.Job{reads(api.MaxJobs)}, api.MaxHands-1)...))
	}
}

// All goroutines have ended when the call answers.
func TestP10_3_FreeNobodyLeft(t *testing.T) {
	before := runtime.NumGoroutine()
	for range 50 {
		holdFree(t, 4, append([][]api.Job{risingWrites(9)}, slices.Repeat([][]api.Job{reads(9)}, api.MaxHands-1)...))
		seq.Free(room(2), [][]api.Job{{read}, {write(1)}})
	}
	if !trial.Settles(before, runtime.NumGoroutine, runtime.Gosched) {
		t.Error(before, runtime.NumGoroutine())
	}
}
