package deal_test

import (
	"math"
	"slices"
	"testing"

	"midden/api"
	"midden/deal"
	"midden/trial"
)

// holdSteps: Layer.HoldSteps with as many places as the words are for.
func holdSteps(t *testing.T, words []uint64, hands [][]api.Job, schedule []int, steps []api.Step, answers [][]api.Answer, after []uint64) {
	t.Helper()
	deals.HoldSteps(t, room(roomOf(words)), words, hands, schedule, steps, answers, after)
}

func TestP8_1_Examples(t *testing.T) {
	hands := [][]api.Job{{lay(5), draw}, {steal}}
	laid := []api.Step{trial.Load(0, bottom, 0), trial.Load(0, top, 0), trial.Store(0, 2, 0, 5), trial.Store(0, bottom, 0, 1)}
	holdSteps(t, fresh(t, 2), hands, []int{0, 0, 0, 0, 1, 1, 1, 1}, append(slices.Clip(laid),
		trial.Load(1, top, 0), trial.Load(1, bottom, 1), trial.Load(1, 2, 5), trial.CAS(1, top, 0, 1),
		trial.Load(0, bottom, 1), trial.Store(0, bottom, 1, 0), trial.Load(0, top, 1), trial.Store(0, bottom, 0, 1),
	), [][]api.Answer{{trial.Told(5), {}}, {trial.Told(5)}}, []uint64{1, 1, 5, 0})
	holdSteps(t, fresh(t, 2), hands, []int{0, 0, 0, 0, 1, 1, 1, 0, 0, 0, 0, 0, 0}, append(slices.Clip(laid),
		trial.Load(1, top, 0), trial.Load(1, bottom, 1), trial.Load(1, 2, 5),
		trial.Load(0, bottom, 1), trial.Store(0, bottom, 1, 0), trial.Load(0, top, 0), trial.Load(0, 2, 5), trial.CAS(0, top, 0, 1), trial.Store(0, bottom, 0, 1),
		trial.Lost(1, top, 1), trial.Load(1, top, 1), trial.Load(1, bottom, 1),
	), [][]api.Answer{{trial.Told(5), trial.Told(5)}, {{}}}, []uint64{1, 1, 5, 0})
	x, a, e := deal.Play(room(2), fresh(t, 2), [][]api.Job{{lay(5), lay(6), lay(7)}}, nil, 1000)
	if e != api.OK || !slices.Equal(a[0], []api.Answer{trial.Told(5), trial.Told(6), {}}) || len(x.Steps) != 10 || x.Steps[9] != trial.Load(0, top, 0) {
		t.Errorf("three laid: %v %v %v", x, a, e)
	}
	if deal.Lay != 1 || deal.Draw != 2 || deal.Steal != 3 {
		t.Error("the kinds", deal.Lay, deal.Draw, deal.Steal)
	}
}

// The steps of each kind, with every field, at numbers from both ends on.
func TestP8_1_StepsOfEachKind(t *testing.T) {
	for _, p := range ends {
		for _, n := range []int{2, 3, 5, api.MaxRoom} {
			q := p + 1
			one, two, none := filled(n, p, 5), filled(n, p, 5, 6), filled(n, p)
			if place(n, p) == place(n, q) {
				continue // a room that doesn't divide 2^64 has its own test
			}
			holdSteps(t, one, [][]api.Job{{lay(6)}}, nil, []api.Step{
				trial.Load(0, bottom, q), trial.Load(0, top, p), trial.Store(0, place(n, q), 0, 6), trial.Store(0, bottom, q, q+1),
			}, [][]api.Answer{{trial.Told(6)}}, two)
			left := slices.Clone(two)
			left[bottom] = q
			holdSteps(t, two, [][]api.Job{{draw}}, nil, []api.Step{
				trial.Load(0, bottom, q+1), trial.Store(0, bottom, q+1, q), trial.Load(0, top, p), trial.Load(0, place(n, q), 6),
			}, [][]api.Answer{{trial.Told(6)}}, left)
			left = slices.Clone(one)
			left[top] = q
			holdSteps(t, one, [][]api.Job{{draw}}, nil, []api.Step{
				trial.Load(0, bottom, q), trial.Store(0, bottom, q, p), trial.Load(0, top, p), trial.Load(0, place(n, p), 5),
				trial.CAS(0, top, p, q), trial.Store(0, bottom, p, q),
			}, [][]api.Answer{{trial.Told(5)}}, left)
			holdSteps(t, none, [][]api.Job{{draw}}, nil, []api.Step{
				trial.Load(0, bottom, p), trial.Store(0, bottom, p, p-1), trial.Load(0, top, p), trial.Store(0, bottom, p-1, p),
			}, [][]api.Answer{{{}}}, none)
			for h := range 3 { // hand 0 may steal, too
				hands, answers := make([][]api.Job, h+1), make([][]api.Answer, h+1)
				hands[h], answers[h] = []api.Job{steal, steal}, []api.Answer{trial.Told(5), {}}
				holdSteps(t, one, hands, nil, []api.Step{
					trial.Load(h, top, p), trial.Load(h, bottom, q), trial.Load(h, place(n, p), 5), trial.CAS(h, top, p, q),
					trial.Load(h, top, q), trial.Load(h, bottom, q),
				}, answers, left)
			}
		}
	}
}

// A full row and an empty one, at every room.
func TestP8_1_FullAndEmpty(t *testing.T) {
	full := []uint64{0, 2, 7, 8}
	holdSteps(t, full, [][]api.Job{{lay(9)}}, nil, []api.Step{trial.Load(0, bottom, 2), trial.Load(0, top, 0)}, [][]api.Answer{{{}}}, full)
	for n := 1; n <= api.MaxRoom; n++ {
		for _, off := range []api.Job{draw, steal} {
			jobs := slices.Concat([]api.Job{draw, steal}, slices.Repeat([]api.Job{lay(4)}, n+1), slices.Repeat([]api.Job{off}, n), []api.Job{draw, steal, lay(1)})
			_, a := deals.HoldRun(t, room(n), fresh(t, n), [][]api.Job{jobs}, nil, 1000)
			var refused []int
			for i, told := range a[0] {
				if !told.OK {
					refused = append(refused, i)
				}
			}
			if !slices.Equal(refused, []int{0, 1, n + 2, 2*n + 3, 2*n + 4}) {
				t.Error(n, off, refused)
			}
		}
	}
}

func TestP8_1_ValuesAtBothEnds(t *testing.T) {
	for _, v := range trial.Values() {
		x, a := deals.HoldRun(t, room(1), []uint64{0, 0, ^v}, [][]api.Job{{lay(v), draw, lay(v), steal, steal}}, nil, 100)
		if !slices.Equal(a[0], []api.Answer{trial.Told(v), trial.Told(v), trial.Told(v), trial.Told(v), {}}) || x.Words[2] != v {
			t.Error(v, x, a)
		}
	}
}

// Differences at which a job takes one way or another: just Room, 1, 0, -1, and 2^63, which is below all others. A Draw
// is one behind: there its difference is above all others, and the value is drawn.
func TestP8_1_Differences(t *testing.T) {
	const last = math.MaxUint64
	for _, n := range []int{1, 2, 3, 8, api.MaxRoom} {
		r := uint64(n)
		for _, c := range []struct {
			job   api.Job
			gaps  []uint64
			steps int
			ok    bool
		}{
			{lay(5), []uint64{r, r + 1, 2 * r, 1 << 62, 1<<63 - 1}, 2, false},
			{lay(5), []uint64{0, r - 1, last, last - 1, 1<<63 + 1, 1 << 63}, 4, true},
			{draw, []uint64{2, 3, r + 1, 1 << 62, 1<<63 - 1, 1 << 63}, 4, true},
			{draw, []uint64{1}, 6, true},
			{draw, []uint64{0, last, last - 1, -r, 1<<63 + 1}, 4, false},
			{steal, []uint64{1, 2, r, r + 1, 1 << 62, 1<<63 - 1}, 4, true},
			{steal, []uint64{0, last, last - 1, -r, 1<<63 + 1, 1 << 63}, 2, false},
		} {
			for _, gap := range c.gaps {
				holdGap(t, n, gap, c.job, c.steps, c.ok)
			}
		}
	}
}

// holdGap fails, if a job alone, with a bottom that is just that much ahead of each top, has not so many steps, or not
// such an answer.
func holdGap(t *testing.T, n int, gap uint64, j api.Job, steps int, ok bool) {
	t.Helper()
	for _, p := range ends {
		words := []uint64{p, p + gap}
		for i := range n {
			words = append(words, 100+uint64(i))
		}
		want := api.Answer{}
		if ok {
			want = trial.Told(map[int]uint64{deal.Lay: j.H, deal.Draw: words[place(n, p+gap-1)], deal.Steal: words[place(n, p)]}[j.Kind])
		}
		x, a := deals.HoldRun(t, room(n), words, [][]api.Job{{j}}, nil, 100)
		if !x.Ended || len(x.Steps) != steps || a[0][0] != want {
			t.Errorf("%v %v: %v %v; want %d steps, %v", words, j, x, a, steps, want)
		}
	}
}

// A room that doesn't divide 2^64: behind the last number's place comes number 0's, which needn't be the next one.
func TestP8_1_RoomThatDoesNotDivide(t *testing.T) {
	const last = math.MaxUint64
	// 2^64 - 1 and 0 both belong to place 0 of 3: the one is laid over the other.
	words := []uint64{last, last, 7, 8, 9}
	x, a := deals.HoldRun(t, room(3), words, [][]api.Job{{lay(5), lay(6), steal, steal, steal}}, nil, 100)
	if !slices.Equal(a[0], []api.Answer{trial.Told(5), trial.Told(6), trial.Told(6), trial.Told(6), {}}) || !slices.Equal(x.Words, []uint64{1, 1, 6, 8, 9}) {
		t.Error("one place twice", x, a)
	}
	// Of 7 they are places 1 and 0.
	words = []uint64{last, last, 0, 0, 0, 0, 0, 0, 0}
	x, a = deals.HoldRun(t, room(7), words, [][]api.Job{{lay(5), lay(6), lay(8), draw, draw, draw, draw}}, nil, 100)
	if x.Words[2+1] != 8 || x.Words[2] != 6 || !slices.Equal(a[0][3:], []api.Answer{trial.Told(8), trial.Told(6), trial.Told(8), {}}) {
		t.Error("place 1 twice", x, a)
	}
	for _, n := range []int{3, 5, 6, 7, 63} {
		after := make([]uint64, 2+n)
		after[top], after[bottom] = 1, 1
		after[place(n, last)] = 5
		after[place(n, 0)] = 6
		x, a := deals.HoldRun(t, room(n), filled(n, last), [][]api.Job{{lay(5), draw, lay(6), steal, draw}}, nil, 100)
		if !slices.Equal(a[0], []api.Answer{trial.Told(5), trial.Told(5), trial.Told(6), trial.Told(6), {}}) || !slices.Equal(x.Words, after) {
			t.Error(n, x, a)
		}
	}
}

// A Steal's CAS that isn't done, again and again: hand 2 steals between hand 1's load of top and its CAS; or the owner
// draws the last value.
func TestP8_1_StealLosesAgain(t *testing.T) {
	for _, times := range []int{0, 1, 2, 5, 30} {
		var values []uint64
		var schedule []int
		for i := range api.MaxRoom {
			values = append(values, 100+uint64(i))
		}
		for range times {
			schedule = append(schedule, 0, 0, 0, 1, 1, 1, 1, 0)
		}
		hands := [][]api.Job{nil, {steal}, slices.Repeat([]api.Job{steal}, times)}
		x, a := deals.HoldRun(t, room(api.MaxRoom), filled(api.MaxRoom, 0, values...), hands, schedule, 1000)
		if !x.Ended || trial.CountLost(x, 1, top) != times || len(x.Steps) != 4+8*times || a[1][0] != trial.Told(100+uint64(times)) {
			t.Error("another Steal", times, x, a)
		}
		hands, schedule = [][]api.Job{nil, {steal}}, nil
		for range times {
			hands[0] = append(hands[0], lay(7), draw)
			schedule = append(schedule, 0, 0, 0, 0, 1, 1, 1, 0, 0, 0, 0, 0, 0, 1)
		}
		x, a = deals.HoldRun(t, room(1), fresh(t, 1), hands, schedule, 1000)
		if !x.Ended || trial.CountLost(x, 1, top) != times || len(x.Steps) != 2+14*times || a[1][0].OK {
			t.Error("a Draw", times, x, a)
		}
	}
}

// A Draw's CAS that isn't done: its job ends, and the next one's may go the same way.
func TestP8_1_DrawLosesAgain(t *testing.T) {
	for _, times := range []int{1, 2, 5, 30} {
		hands := [][]api.Job{nil, slices.Repeat([]api.Job{steal}, times)}
		var schedule []int
		for i := range times {
			hands[0] = append(hands[0], lay(uint64(i)), draw)
			schedule = append(schedule, 0, 0, 0, 0, 1, 1, 1, 0, 0, 0, 0, 1, 0, 0)
		}
		x, a := deals.HoldRun(t, room(2), fresh(t, 2), hands, schedule, 1000)
		if !x.Ended || trial.CountLost(x, 0, top) != times || len(x.Steps) != 14*times || x.Words[top] != uint64(times) || x.Words[bottom] != uint64(times) {
			t.Error(times, x, a)
		}
		for i := range times {
			if a[0][2*i+1] != (api.Answer{}) || a[1][i] != trial.Told(uint64(i)) {
				t.Error(times, i, a)
			}
		}
	}
}

// While a Draw is under way, bottom is one below the end: a Steal of the last value finds nothing.
func TestP8_1_StealAmidDraw(t *testing.T) {
	holdSteps(t, []uint64{4, 5, 9, 0}, [][]api.Job{{draw}, {steal}}, []int{0, 0, 1, 1}, []api.Step{
		trial.Load(0, bottom, 5), trial.Store(0, bottom, 5, 4), trial.Load(1, top, 4), trial.Load(1, bottom, 4),
		trial.Load(0, top, 4), trial.Load(0, 2, 9), trial.CAS(0, top, 4, 5), trial.Store(0, bottom, 4, 5),
	}, [][]api.Answer{{trial.Told(9)}, {{}}}, []uint64{5, 5, 9, 0})
	empty := []uint64{4, 4, 9, 0}
	holdSteps(t, empty, [][]api.Job{{draw}, {steal}}, []int{0, 0, 1, 1}, []api.Step{
		trial.Load(0, bottom, 4), trial.Store(0, bottom, 4, 3), trial.Load(1, top, 4), trial.Load(1, bottom, 3),
		trial.Load(0, top, 4), trial.Store(0, bottom, 3, 4),
	}, [][]api.Answer{{{}}, {{}}}, empty)
}

func TestP8_1_SizeAndFresh(t *testing.T) {
	deals.HoldFresh(t, api.MaxRoom, func(n int) []uint64 { return make([]uint64, 2+n) })
}

// ErrShape, then ErrKind, then ErrArg: Lay and Draw are hand 0's alone, Steal is any hand's.
func TestP8_1_TaskErrors(t *testing.T) {
	deals.HoldTaskErrors(t, api.MaxRoom, deal.Steal, func(hand, kind int) api.Errno {
		switch {
		case kind < deal.Lay || kind > deal.Steal:
			return api.ErrKind
		case kind != deal.Steal && hand != 0:
			return api.ErrArg
		}
		return api.OK
	})
}

// A task alone on memories by hand: shorter than the deal's, longer, and none at all. A Steal is of a hand of whatever
// number.
func TestP8_1_TaskAlone(t *testing.T) {
	from := trial.Source(1)
	hold := func(hand int, j api.Job) {
		deals.HoldTask(t, room(2), hand, j, nil, 30)
		deals.HoldTask(t, room(2), hand, j, []uint64{math.MaxUint64}, 30)
		for range 200 {
			words := append(anyWords(&from, 3), anyWords(&from, 3)...)
			deals.HoldTask(t, room(3), hand, j, words[:from.Below(len(words)+1)], 30)
		}
	}
	hold(0, lay(9))
	hold(0, draw)
	for _, hand := range append([]int{0, 3, api.MaxHands - 1, api.MaxHands}, trial.Ends()...) {
		hold(hand, steal)
	}
}

func TestP8_1_AnyWordsByModel(t *testing.T) {
	from := trial.Source(2)
	ended := 0
	for range 6000 {
		n := 1 + from.Below(5)
		hands := anyJobs(&from, from.Below(api.MaxHands+1), 8)
		if x, _ := deals.HoldRun(t, room(n), anyWords(&from, n), hands, from.Schedule(from.Below(80)), from.Below(250)); x.Ended {
			ended++
		}
	}
	if ended < 1000 || ended > 5900 {
		t.Error("too few runs have ended, or too many:", ended)
	}
}

// most in the middle of a task: what it has done so far stands in the words, and no answer is told.
func TestP8_1_MostInTheMiddle(t *testing.T) {
	hands := [][]api.Job{{lay(5), draw, steal}, nil, {}}
	ends := []int{4, 10, 12} // the steps with which the jobs end
	for most, want := range [][]uint64{
		{0, 0, 9}, {0, 0, 9}, {0, 0, 9}, {0, 0, 5}, {0, 1, 5},
		{0, 1, 5}, {0, 0, 5}, {0, 0, 5}, {0, 0, 5}, {1, 0, 5}, {1, 1, 5},
		{1, 1, 5}, {1, 1, 5}, {1, 1, 5},
	} {
		told := []api.Answer{trial.Told(5), trial.Told(5), {}}
		for len(told) > 0 && ends[len(told)-1] > most {
			told = told[:len(told)-1]
		}
		x, a := deals.HoldRun(t, room(1), []uint64{0, 0, 9}, hands, []int{4}, most)
		if len(x.Steps) != min(most, 12) || x.Ended != (most >= 12) || !slices.Equal(x.Words, want) || !trial.SameAnswers(a, [][]api.Answer{told, nil, nil}) {
			t.Error(most, x, a)
		}
	}
	from := trial.Source(3)
	for most := range 80 {
		deals.HoldRun(t, room(2), fresh(t, 2), [][]api.Job{{lay(1), draw, lay(2), lay(3), draw}, {steal, steal}, nil, {steal}}, from.Schedule(40), most)
	}
}

// Schedules that are empty, shorter than the run, just as long, and longer.
func TestP8_1_Schedules(t *testing.T) {
	hands := [][]api.Job{{lay(1), draw, lay(2), lay(3), steal, draw}, nil, {steal, steal}, {steal}}
	from := trial.Source(4)
	long := from.Schedule(100)
	for n := range len(long) {
		holdWhole(t, 2, hands, long[:n])
	}
}

// At the limits: the greatest room, 8 hands with 256 jobs each, a schedule and most of 65536.
func TestP8_1_AtTheLimits(t *testing.T) {
	from := trial.Source(5)
	hands := make([][]api.Job, api.MaxHands)
	for h := range hands {
		for range api.MaxJobs {
			hands[h] = append(hands[h], anyJob(&from, h))
		}
	}
	holdWhole(t, api.MaxRoom, hands, from.Schedule(api.MaxSteps))
	holdFree(t, api.MaxRoom, hands)
}

// The last place of the greatest room is laid on and taken from, at both ends; behind it comes the first one again.
func TestP8_1_GreatestRoom(t *testing.T) {
	const n = api.MaxRoom
	jobs := append(slices.Repeat([]api.Job{lay(3)}, n-1), lay(4), lay(5), draw, lay(6), steal, lay(7), lay(8))
	x, a := deals.HoldRun(t, room(n), fresh(t, n), [][]api.Job{jobs}, nil, api.MaxSteps)
	if !slices.Equal(a[0][n-1:], []api.Answer{trial.Told(4), {}, trial.Told(4), trial.Told(6), trial.Told(3), trial.Told(7), {}}) {
		t.Error(a)
	}
	if x.Words[2] != 7 || x.Words[2+n-1] != 6 || x.Words[top] != 1 || x.Words[bottom] != n+1 {
		t.Error(x.Words)
	}
	x, a = deals.HoldRun(t, room(n), x.Words, [][]api.Job{nil, slices.Repeat([]api.Job{steal}, n+1)}, nil, api.MaxSteps)
	if a[1][n-2] != trial.Told(6) || a[1][n-1] != trial.Told(7) || a[1][n].OK || x.Words[top] != n+1 {
		t.Error(x.Words, a)
	}
}
