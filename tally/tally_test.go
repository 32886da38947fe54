package tally_test

import (
	"math"
	"slices"
	"testing"

	"midden/api"
	"midden/tally"
	"midden/trial"
)

func met(v uint64) api.Answer { return api.Answer{Val: v} }

func TestP5_1_Examples(t *testing.T) {
	hands := [][]api.Job{{count(0, 5), sum}, {count(1, 7)}}
	fresh, after := make([]uint64, 4), []uint64{5, 7, 0, 0}
	holdSteps(t, fresh, hands, []int{0, 0, 1, 0},
		[]api.Step{trial.Add(0, 0, 0, 5), trial.Load(0, 0, 5), trial.Add(1, 1, 0, 7), trial.Load(0, 1, 7)},
		[][]api.Answer{{trial.Told(5), trial.Told(12)}, {trial.Told(7)}}, after)
	holdSteps(t, fresh, hands, []int{0, 0, 0, 1},
		[]api.Step{trial.Add(0, 0, 0, 5), trial.Load(0, 0, 5), trial.Load(0, 1, 0), trial.Add(1, 1, 0, 7)},
		[][]api.Answer{{trial.Told(5), trial.Told(5)}, {trial.Told(7)}}, after)
	holdSteps(t, fresh, [][]api.Job{{most(0, 9)}, {most(0, 4)}}, []int{0, 1, 1, 0, 0, 0},
		[]api.Step{trial.Load(0, 2, 0), trial.Load(1, 2, 0), trial.CAS(1, 2, 0, 4), trial.Lost(0, 2, 4), trial.Load(0, 2, 4), trial.CAS(0, 2, 4, 9)},
		[][]api.Answer{{trial.Told(9)}, {trial.Told(4)}}, []uint64{0, 0, 9, 0})
	holdSteps(t, fresh, [][]api.Job{{most(1, 0)}}, nil,
		[]api.Step{trial.Load(0, 3, 0)}, [][]api.Answer{{met(0)}}, fresh)
	if tally.Count != 1 || tally.Sum != 2 || tally.Most != 3 {
		t.Error("the kinds", tally.Count, tally.Sum, tally.Most)
	}
}

// The steps of each kind, with every field, at the first and the last of three, from words that are not fresh.
func TestP5_1_StepsOfEachKind(t *testing.T) {
	const top = math.MaxUint64
	words := []uint64{10, 20, 30, 40, 50, 60}
	with := func(at int, v uint64) []uint64 {
		out := slices.Clone(words)
		out[at] = v
		return out
	}
	for _, c := range []struct {
		job   api.Job
		steps []api.Step
		told  api.Answer
		after []uint64
	}{
		{count(0, 1), []api.Step{trial.Add(0, 0, 10, 11)}, trial.Told(11), with(0, 11)},
		{count(2, 5), []api.Step{trial.Add(0, 2, 30, 35)}, trial.Told(35), with(2, 35)},
		{count(1, 0), []api.Step{trial.Add(0, 1, 20, 20)}, trial.Told(20), words},
		{count(1, top), []api.Step{trial.Add(0, 1, 20, 19)}, trial.Told(19), with(1, 19)},
		{sum, []api.Step{trial.Load(0, 0, 10), trial.Load(0, 1, 20), trial.Load(0, 2, 30)}, trial.Told(60), words},
		{api.Job{Kind: tally.Sum, A: 2, B: 1, C: 1, H: 5}, []api.Step{trial.Load(0, 0, 10), trial.Load(0, 1, 20), trial.Load(0, 2, 30)}, trial.Told(60), words},
		{most(0, 41), []api.Step{trial.Load(0, 3, 40), trial.CAS(0, 3, 40, 41)}, trial.Told(41), with(3, 41)},
		{most(2, top), []api.Step{trial.Load(0, 5, 60), trial.CAS(0, 5, 60, top)}, trial.Told(top), with(5, top)},
		{most(1, 50), []api.Step{trial.Load(0, 4, 50)}, met(50), words},
		{most(1, 49), []api.Step{trial.Load(0, 4, 50)}, met(50), words},
		{most(2, 0), []api.Step{trial.Load(0, 5, 60)}, met(60), words},
	} {
		holdSteps(t, words, [][]api.Job{{c.job}}, nil, c.steps, [][]api.Answer{{c.told}}, c.after)
	}
}

// Numbers at both ends: sums modulo 2^64, greatest ones unsigned.
func TestP5_1_PastTheEnd(t *testing.T) {
	const top, half = math.MaxUint64, 1 << 63
	holdSteps(t, []uint64{top, half, half, 3, 0, 0, 0, 0}, [][]api.Job{{sum, count(0, 1), count(3, top), sum}}, nil,
		[]api.Step{
			trial.Load(0, 0, top), trial.Load(0, 1, half), trial.Load(0, 2, half), trial.Load(0, 3, 3),
			trial.Add(0, 0, top, 0), trial.Add(0, 3, 3, 2),
			trial.Load(0, 0, 0), trial.Load(0, 1, half), trial.Load(0, 2, half), trial.Load(0, 3, 2),
		},
		[][]api.Answer{{trial.Told(2), trial.Told(0), trial.Told(2), trial.Told(2)}}, []uint64{0, half, half, 2, 0, 0, 0, 0})
	holdSteps(t, []uint64{top, half - 1}, [][]api.Job{{most(0, half), most(0, half-1), most(0, 0), most(0, top), most(0, top)}}, nil,
		[]api.Step{trial.Load(0, 1, half-1), trial.CAS(0, 1, half-1, half), trial.Load(0, 1, half), trial.Load(0, 1, half), trial.Load(0, 1, half), trial.CAS(0, 1, half, top), trial.Load(0, 1, top)},
		[][]api.Answer{{trial.Told(half), met(half), met(half), trial.Told(top), met(top)}}, []uint64{top, top})
}

// A Most that is raised by others while it is under way: past it, up to it, and below it again and again.
func TestP5_1_MostRaisedByOthers(t *testing.T) {
	fresh := []uint64{8, 1}
	other := func(to uint64) []api.Step { return []api.Step{trial.Load(1, 1, 1), trial.CAS(1, 1, 1, to)} }
	begun := append([]api.Step{trial.Load(0, 1, 1)}, other(9)...)
	holdSteps(t, fresh, [][]api.Job{{most(0, 5)}, {most(0, 9)}}, []int{0, 1, 1},
		append(slices.Clone(begun), trial.Lost(0, 1, 9), trial.Load(0, 1, 9)),
		[][]api.Answer{{met(9)}, {trial.Told(9)}}, []uint64{8, 9})
	holdSteps(t, fresh, [][]api.Job{{most(0, 9)}, {most(0, 9)}}, []int{0, 1, 1},
		append(slices.Clone(begun), trial.Lost(0, 1, 9), trial.Load(0, 1, 9)),
		[][]api.Answer{{met(9)}, {trial.Told(9)}}, []uint64{8, 9})
	holdSteps(t, fresh, [][]api.Job{{most(0, 9)}, {most(0, 2), most(0, 3), most(0, 4), count(0, 1)}}, []int{0, 1, 1, 0, 0, 1, 1, 0, 0, 1, 1, 0, 0, 1, 0},
		[]api.Step{
			trial.Load(0, 1, 1), trial.Load(1, 1, 1), trial.CAS(1, 1, 1, 2), trial.Lost(0, 1, 2),
			trial.Load(0, 1, 2), trial.Load(1, 1, 2), trial.CAS(1, 1, 2, 3), trial.Lost(0, 1, 3),
			trial.Load(0, 1, 3), trial.Load(1, 1, 3), trial.CAS(1, 1, 3, 4), trial.Lost(0, 1, 4),
			trial.Load(0, 1, 4), trial.Add(1, 0, 8, 9), trial.CAS(0, 1, 4, 9),
		},
		[][]api.Answer{{trial.Told(9)}, {trial.Told(2), trial.Told(3), trial.Told(4), trial.Told(9)}}, []uint64{9, 9})
}

func TestP5_1_SizeAndFresh(t *testing.T) {
	tallies.HoldFresh(t, api.MaxRoom, func(room int) []uint64 { return make([]uint64, 2*room) })
}

func TestP5_1_TaskErrors(t *testing.T) {
	expect := func(sh api.Shape, j api.Job, want api.Errno) {
		t.Helper()
		for _, hand := range []int{0, 3, -1, math.MinInt, math.MaxInt} {
			if k, e := tally.Task(sh, hand, j); e != want || (k == nil) != (want != api.OK) {
				t.Errorf("%v, hand %d, %v: %v, %v; want %v", sh, hand, j, k, e, want)
			}
		}
	}
	noKinds := trial.NoKinds(tally.Most)
	kinds := append([]int{tally.Count, tally.Sum, tally.Most}, noKinds...)
	for _, room := range trial.NoRooms(api.MaxRoom) {
		for _, kind := range kinds {
			expect(api.Shape{Room: room}, api.Job{Kind: kind, A: room}, api.ErrShape)
			expect(api.Shape{Room: room}, api.Job{Kind: kind}, api.ErrShape)
		}
	}
	for _, room := range []int{1, 2, api.MaxRoom} {
		sh := api.Shape{Room: room}
		for _, a := range append([]int{0, room - 1, room, room + 1, 2 * room, 1 << 32}, trial.Ends()...) {
			for _, kind := range noKinds {
				expect(sh, api.Job{Kind: kind, A: a}, api.ErrKind)
			}
			want := api.OK
			if a < 0 || a >= room {
				want = api.ErrArg
			}
			expect(sh, api.Job{Kind: tally.Count, A: a, B: -1, C: math.MaxInt, H: math.MaxUint64}, want)
			expect(sh, api.Job{Kind: tally.Most, A: a, B: math.MinInt, C: -1}, want)
			expect(sh, api.Job{Kind: tally.Sum, A: a, B: -1, C: -1, H: math.MaxUint64}, api.OK)
		}
	}
}

// A task alone, for a hand that is any number, on a memory by hand: it goes as the plain code does, also where
// the memory doesn't have its words.
func TestP5_1_TaskAlone(t *testing.T) {
	const room = 3
	hands := append([]int{0, 1, api.MaxHands, 1000}, trial.Ends()...)
	for size := range 2*room + 3 {
		for _, v := range []uint64{0, 4, 9, math.MaxUint64} {
			for kind := tally.Count; kind <= tally.Most; kind++ {
				for a := range room {
					words := slices.Repeat([]uint64{v}, size)
					hand := hands[(size+a)%len(hands)]
					tallies.HoldTask(t, api.Shape{Room: room}, hand, api.Job{Kind: kind, A: a, B: -9, C: 9, H: 9}, words, 8)
				}
			}
		}
	}
	for kind := tally.Count; kind <= tally.Most; kind++ {
		tallies.HoldTask(t, api.Shape{Room: room}, 5, api.Job{Kind: kind, H: 1}, nil, 8)
	}
}

func TestP5_1_AnyWordsByModel(t *testing.T) {
	from := newSource(1)
	for range 4000 {
		room := 1 + from.Below(4)
		hands := from.jobs(from.Below(api.MaxHands+1), 5, room, from.value)
		holdRun(t, from.words(room), hands, from.Schedule(from.Below(60)), from.Below(120))
	}
}

// Count, Sum and Most in every order, by one hand and by three, up to each step.
func TestP5_1_EveryOrder(t *testing.T) {
	kinds := []api.Job{count(1, 3), sum, most(1, 3)}
	for _, order := range [][3]int{{0, 1, 2}, {0, 2, 1}, {1, 0, 2}, {1, 2, 0}, {2, 0, 1}, {2, 1, 0}} {
		a, b, c := kinds[order[0]], kinds[order[1]], kinds[order[2]]
		for _, words := range [][]uint64{{0, 0, 0, 0}, {5, math.MaxUint64, 9, 2}, {1, 2, 0, 3}} {
			for most := range 8 {
				holdRun(t, words, [][]api.Job{{a, b, c}}, nil, most)
			}
			for schedule := range trial.Lists(3, 5) {
				holdRun(t, words, [][]api.Job{{a}, {b}, {c}}, schedule, 20)
			}
			for schedule := range trial.Lists(2, 9) {
				holdRun(t, words, [][]api.Job{{a, b, c}, {c, a}}, schedule, 20)
			}
		}
	}
}

// A job touches its own word alone, and a Sum all stripes and no greatest.
func TestP5_1_WordsApart(t *testing.T) {
	for room := 1; room <= api.MaxRoom; room++ {
		for _, i := range []int{0, room / 2, room - 1} {
			words := slices.Repeat([]uint64{77}, 2*room)
			x, a := holdRun(t, words, [][]api.Job{{count(i, 1), most(i, 80), sum}}, nil, 200)
			words[i], words[room+i] = 78, 80
			all := uint64(77*room + 1)
			if !slices.Equal(x.Words, words) || !x.Ended || len(x.Steps) != 3+room || !trial.SameAnswers(a, [][]api.Answer{{trial.Told(78), trial.Told(80), trial.Told(all)}}) {
				t.Error(room, i, x, a)
			}
		}
	}
}

// most in the middle of a task: what it has done so far stands in the words, and no answer is told.
func TestP5_1_MostInTheMiddle(t *testing.T) {
	hands := [][]api.Job{nil, {sum, most(0, 5), count(1, 2)}, {}}
	words := []uint64{3, 4, 0, 0}
	for most, c := range []struct {
		words []uint64
		told  []api.Answer
	}{
		{words, nil},
		{words, nil},
		{words, []api.Answer{trial.Told(7)}},
		{words, []api.Answer{trial.Told(7)}},
		{[]uint64{3, 4, 5, 0}, []api.Answer{trial.Told(7), trial.Told(5)}},
		{[]uint64{3, 6, 5, 0}, []api.Answer{trial.Told(7), trial.Told(5), trial.Told(6)}},
		{[]uint64{3, 6, 5, 0}, []api.Answer{trial.Told(7), trial.Told(5), trial.Told(6)}},
	} {
		x, a, e := tally.Play(api.Shape{Room: 2}, words, hands, []int{4}, most)
		if e != api.OK || len(x.Steps) != min(most, 5) || x.Ended != (most >= 5) || !slices.Equal(x.Words, c.words) || !trial.SameAnswers(a, [][]api.Answer{nil, c.told, nil}) {
			t.Error(most, x, a, e)
		}
	}
}

// Schedules that are empty, shorter than the run, just as long, and longer.
func TestP5_1_Schedules(t *testing.T) {
	hands := [][]api.Job{{count(0, 2), sum, most(1, 6)}, nil, {most(1, 4), count(1, 1)}, {sum, most(1, 5)}}
	from := newSource(2)
	long := from.Schedule(60)
	for n := range len(long) {
		if x, _ := holdRun(t, []uint64{1, 2, 3, 3}, hands, long[:n], 300); !x.Ended {
			t.Fatal(n, x)
		}
	}
}

// At the limits: the greatest room, 8 hands with 256 jobs each, a schedule and most of 65536.
func TestP5_1_AtTheLimits(t *testing.T) {
	from := newSource(3)
	hands := make([][]api.Job, api.MaxHands)
	for h := range hands {
		for i := range api.MaxJobs {
			j := api.Job{Kind: tally.Count + 2*from.Below(2), A: i % api.MaxRoom, H: from.value()}
			if i%8 == 0 {
				j.Kind = tally.Sum
			}
			hands[h] = append(hands[h], j)
		}
	}
	words := from.words(api.MaxRoom)
	x, a := holdRun(t, words, hands, from.Schedule(api.MaxSteps), api.MaxSteps)
	if !x.Ended || len(a[api.MaxHands-1]) != api.MaxJobs {
		t.Error(len(x.Steps), x.Ended)
	}
	holdEnd(t, words, hands, x.Words)
	w, a, e := tally.Free(api.Shape{Room: api.MaxRoom}, hands)
	if e != api.OK || len(a) != api.MaxHands || len(a[0]) != api.MaxJobs {
		t.Fatal(len(a), e)
	}
	holdEnd(t, make([]uint64, 2*api.MaxRoom), hands, w)
}
