package tally_test

import (
	"math"
	"slices"
	"testing"

	"midden/api"
	"midden/cells"
	"midden/tally"
	"midden/turn"
)

// rooms that are none.
var noRooms = append([]int{0, api.MaxRoom + 1, api.MaxRoom + 2, 1 << 32, 1<<32 + 1, 1 << 62, 1<<63 - 32}, ends[:]...)

// kinds that are none.
var noKinds = append([]int{0, 4, 5, 1 << 32, 1<<32 + tally.Count}, ends[:]...)

func load(hand, at int, v uint64) api.Step {
	return api.Step{Hand: hand, Act: api.Load, At: at, Had: v, Put: v, OK: true}
}

func add(hand, at int, had, put uint64) api.Step {
	return api.Step{Hand: hand, Act: api.Add, At: at, Had: had, Put: put, OK: true}
}

func cas(hand, at int, had, put uint64) api.Step {
	return api.Step{Hand: hand, Act: api.CAS, At: at, Had: had, Put: put, OK: true}
}

// lost is a CAS that was not done: another hand has made the word had.
func lost(hand, at int, had uint64) api.Step {
	return api.Step{Hand: hand, Act: api.CAS, At: at, Had: had, Put: had}
}

func told(v uint64) api.Answer { return api.Answer{OK: true, Val: v} }
func met(v uint64) api.Answer  { return api.Answer{Val: v} }

// A sample is a run, and what it must give.
type sample struct {
	words    []uint64
	hands    [][]api.Job
	schedule []int
	steps    []api.Step
	answers  [][]api.Answer
	after    []uint64
}

func (c sample) hold(t *testing.T, name string) {
	t.Helper()
	x, a, e := tally.Play(api.Shape{Room: len(c.words) / 2}, c.words, c.hands, c.schedule, 100)
	if e != api.OK || !sameTrace(x, api.Trace{Steps: c.steps, Words: c.after, Ended: true}) || !sameAnswers(a, c.answers) {
		t.Errorf("%s: %v %v %v", name, x, a, e)
	}
}

func TestP5_1_Examples(t *testing.T) {
	hands := [][]api.Job{{count(0, 5), sum}, {count(1, 7)}}
	fresh, after := make([]uint64, 4), []uint64{5, 7, 0, 0}
	sample{fresh, hands, []int{0, 0, 1, 0},
		[]api.Step{add(0, 0, 0, 5), load(0, 0, 5), add(1, 1, 0, 7), load(0, 1, 7)},
		[][]api.Answer{{told(5), told(12)}, {told(7)}}, after}.hold(t, "a count between")
	sample{fresh, hands, []int{0, 0, 0, 1},
		[]api.Step{add(0, 0, 0, 5), load(0, 0, 5), load(0, 1, 0), add(1, 1, 0, 7)},
		[][]api.Answer{{told(5), told(5)}, {told(7)}}, after}.hold(t, "a count behind")
	sample{fresh, [][]api.Job{{most(0, 9)}, {most(0, 4)}}, []int{0, 1, 1, 0, 0, 0},
		[]api.Step{load(0, 2, 0), load(1, 2, 0), cas(1, 2, 0, 4), lost(0, 2, 4), load(0, 2, 4), cas(0, 2, 4, 9)},
		[][]api.Answer{{told(9)}, {told(4)}}, []uint64{0, 0, 9, 0}}.hold(t, "a greatest between")
	sample{fresh, [][]api.Job{{most(1, 0)}}, nil,
		[]api.Step{load(0, 3, 0)}, [][]api.Answer{{met(0)}}, fresh}.hold(t, "a greatest that is met")
	if tally.Count != 1 || tally.Sum != 2 || tally.Most != 3 {
		t.Error("the kinds", tally.Count, tally.Sum, tally.Most)
	}
}

// The steps of each kind, with every field, at the first and the last of three, from words that are not fresh.
func TestP5_1_StepsOfEachKind(t *testing.T) {
	const top = math.MaxUint64
	words := []uint64{10, 20, 30, 40, 50, 60}
	with := func(at int, v uint64) []uint64 {
		out := slices.Clone(words)
		out[at] = v
		return out
	}
	for name, c := range map[string]struct {
		job   api.Job
		steps []api.Step
		told  api.Answer
		after []uint64
	}{
		"the first stripe":     {count(0, 1), []api.Step{add(0, 0, 10, 11)}, told(11), with(0, 11)},
		"the last stripe":      {count(2, 5), []api.Step{add(0, 2, 30, 35)}, told(35), with(2, 35)},
		"a count of 0":         {count(1, 0), []api.Step{add(0, 1, 20, 20)}, told(20), words},
		"a count past 2^64":    {count(1, top), []api.Step{add(0, 1, 20, 19)}, told(19), with(1, 19)},
		"a sum":                {sum, []api.Step{load(0, 0, 10), load(0, 1, 20), load(0, 2, 30)}, told(60), words},
		"a sum with an A":      {api.Job{Kind: tally.Sum, A: 2, B: 1, C: 1, H: 5}, []api.Step{load(0, 0, 10), load(0, 1, 20), load(0, 2, 30)}, told(60), words},
		"the first greatest":   {most(0, 41), []api.Step{load(0, 3, 40), cas(0, 3, 40, 41)}, told(41), with(3, 41)},
		"the last greatest":    {most(2, top), []api.Step{load(0, 5, 60), cas(0, 5, 60, top)}, told(top), with(5, top)},
		"a greatest as it is":  {most(1, 50), []api.Step{load(0, 4, 50)}, met(50), words},
		"a greatest above":     {most(1, 49), []api.Step{load(0, 4, 50)}, met(50), words},
		"a greatest, and of 0": {most(2, 0), []api.Step{load(0, 5, 60)}, met(60), words},
	} {
		sample{words, [][]api.Job{{c.job}}, nil, c.steps, [][]api.Answer{{c.told}}, c.after}.hold(t, name)
	}
}

// Numbers at both ends: sums modulo 2^64, greatest ones unsigned.
func TestP5_1_PastTheEnd(t *testing.T) {
	const top, half = math.MaxUint64, 1 << 63
	sample{[]uint64{top, half, half, 3, 0, 0, 0, 0}, [][]api.Job{{sum, count(0, 1), count(3, top), sum}}, nil,
		[]api.Step{
			load(0, 0, top), load(0, 1, half), load(0, 2, half), load(0, 3, 3),
			add(0, 0, top, 0), add(0, 3, 3, 2),
			load(0, 0, 0), load(0, 1, half), load(0, 2, half), load(0, 3, 2),
		},
		[][]api.Answer{{told(2), told(0), told(2), told(2)}}, []uint64{0, half, half, 2, 0, 0, 0, 0}}.hold(t, "sums")
	sample{[]uint64{top, half - 1}, [][]api.Job{{most(0, half), most(0, half-1), most(0, 0), most(0, top), most(0, top)}}, nil,
		[]api.Step{load(0, 1, half-1), cas(0, 1, half-1, half), load(0, 1, half), load(0, 1, half), load(0, 1, half), cas(0, 1, half, top), load(0, 1, top)},
		[][]api.Answer{{told(half), met(half), met(half), told(top), met(top)}}, []uint64{top, top}}.hold(t, "greatest ones")
}

// A Most that is raised by others while it is under way: past it, up to it, and below it again and again.
func TestP5_1_MostRaisedByOthers(t *testing.T) {
	fresh := []uint64{8, 1}
	other := func(to uint64) []api.Step { return []api.Step{load(1, 1, 1), cas(1, 1, 1, to)} }
	begun := append([]api.Step{load(0, 1, 1)}, other(9)...)
	sample{fresh, [][]api.Job{{most(0, 5)}, {most(0, 9)}}, []int{0, 1, 1},
		append(slices.Clone(begun), lost(0, 1, 9), load(0, 1, 9)),
		[][]api.Answer{{met(9)}, {told(9)}}, []uint64{8, 9}}.hold(t, "past it")
	sample{fresh, [][]api.Job{{most(0, 9)}, {most(0, 9)}}, []int{0, 1, 1},
		append(slices.Clone(begun), lost(0, 1, 9), load(0, 1, 9)),
		[][]api.Answer{{met(9)}, {told(9)}}, []uint64{8, 9}}.hold(t, "up to it")
	sample{fresh, [][]api.Job{{most(0, 9)}, {most(0, 2), most(0, 3), most(0, 4), count(0, 1)}}, []int{0, 1, 1, 0, 0, 1, 1, 0, 0, 1, 1, 0, 0, 1, 0},
		[]api.Step{
			load(0, 1, 1), load(1, 1, 1), cas(1, 1, 1, 2), lost(0, 1, 2),
			load(0, 1, 2), load(1, 1, 2), cas(1, 1, 2, 3), lost(0, 1, 3),
			load(0, 1, 3), load(1, 1, 3), cas(1, 1, 3, 4), lost(0, 1, 4),
			load(0, 1, 4), add(1, 0, 8, 9), cas(0, 1, 4, 9),
		},
		[][]api.Answer{{told(9)}, {told(2), told(3), told(4), told(9)}}, []uint64{9, 9}}.hold(t, "again and again")
}

func TestP5_1_SizeAndFresh(t *testing.T) {
	for room := 1; room <= api.MaxRoom; room++ {
		// Of the shape nothing else is looked at.
		sh := api.Shape{Objects: -1, Slots: math.MaxInt, Hands: math.MinInt, Roots: -7, Weaks: 99, Room: room}
		size, e := tally.Size(sh)
		words, e2 := tally.Fresh(sh)
		if e != api.OK || e2 != api.OK || size != 2*room || !slices.Equal(words, make([]uint64, 2*room)) {
			t.Fatal(room, size, e, words, e2)
		}
		words[0] = 9
		_ = append(words, 9)
		if again, _ := tally.Fresh(sh); again[0] != 0 {
			t.Error("the words are shared")
		}
	}
	for _, room := range noRooms {
		sh := api.Shape{Objects: 1, Slots: 1, Hands: 1, Roots: 1, Weaks: 1, Room: room}
		if size, e := tally.Size(sh); size != 0 || e != api.ErrShape {
			t.Error(room, size, e)
		}
		if words, e := tally.Fresh(sh); words != nil || e != api.ErrShape {
			t.Error(room, words, e)
		}
	}
}

func TestP5_1_TaskErrors(t *testing.T) {
	expect := func(sh api.Shape, j api.Job, want api.Errno) {
		t.Helper()
		for _, hand := range []int{0, 3, -1, math.MinInt, math.MaxInt} {
			if k, e := tally.Task(sh, hand, j); e != want || (k == nil) != (want != api.OK) {
				t.Errorf("%v, hand %d, %v: %v, %v; want %v", sh, hand, j, k, e, want)
			}
		}
	}
	kinds := append([]int{tally.Count, tally.Sum, tally.Most}, noKinds...)
	for _, room := range noRooms {
		for _, kind := range kinds {
			expect(api.Shape{Room: room}, api.Job{Kind: kind, A: room}, api.ErrShape)
			expect(api.Shape{Room: room}, api.Job{Kind: kind}, api.ErrShape)
		}
	}
	for _, room := range []int{1, 2, api.MaxRoom} {
		sh := api.Shape{Room: room}
		for _, a := range append([]int{0, room - 1, room, room + 1, 2 * room, 1 << 32}, ends[:]...) {
			for _, kind := range noKinds {
				expect(sh, api.Job{Kind: kind, A: a}, api.ErrKind)
			}
			want := api.OK
			if a < 0 || a >= room {
				want = api.ErrArg
			}
			expect(sh, api.Job{Kind: tally.Count, A: a, B: -1, C: math.MaxInt, H: math.MaxUint64}, want)
			expect(sh, api.Job{Kind: tally.Most, A: a, B: math.MinInt, C: -1}, want)
			expect(sh, api.Job{Kind: tally.Sum, A: a, B: -1, C: -1, H: math.MaxUint64}, api.OK)
		}
	}
}

// A task alone, for a hand that is any number, on a memory by hand: it goes as the plain code does, also where
// the memory doesn't have its words.
func TestP5_1_TaskAlone(t *testing.T) {
	const room = 3
	hands := append([]int{0, 1, api.MaxHands, 1000}, ends[:]...)
	for size := range 2*room + 3 {
		for _, v := range []uint64{0, 4, 9, math.MaxUint64} {
			for kind := tally.Count; kind <= tally.Most; kind++ {
				for a := range room {
					words := slices.Repeat([]uint64{v}, size)
					hand := hands[(size+a)%len(hands)]
					holdTask(t, room, hand, api.Job{Kind: kind, A: a, B: -9, C: 9, H: 9}, words)
				}
			}
		}
	}
	for kind := tally.Count; kind <= tally.Most; kind++ {
		holdTask(t, room, 5, api.Job{Kind: kind, H: 1}, nil)
	}
}

// holdTask: a Most of a word that isn't there never ends, so it is left behind some steps.
func holdTask(t *testing.T, room, hand int, j api.Job, words []uint64) {
	t.Helper()
	k, e := tally.Task(api.Shape{Room: room}, hand, j)
	if e != api.OK {
		t.Fatal(j, e)
	}
	var m, plain *cells.Mem // nil ones for nil words
	if words != nil {
		m, _ = cells.New(words)
		plain, _ = cells.New(words)
	}
	r := begin(room, hand, j)
	defer r.stop()
	for i := range 8 {
		s, state := k.Step(m)
		wantS, wantState := r.Step(plain)
		if s != wantS || state != wantState || s.Hand != hand {
			t.Fatalf("%v of hand %d, step %d: %+v, %d; want %+v, %d", j, hand, i, s, state, wantS, wantState)
		}
		if state == turn.Ended {
			if k.Answer() != r.told {
				t.Fatalf("%v of hand %d: %v, want %v", j, hand, k.Answer(), r.told)
			}
			break
		}
	}
	if !slices.Equal(m.Words(), plain.Words()) {
		t.Fatalf("%v of hand %d: %v, want %v", j, hand, m.Words(), plain.Words())
	}
}

func TestP5_1_AnyWordsByModel(t *testing.T) {
	from := source(1)
	for range 4000 {
		room := 1 + from.below(4)
		hands := from.jobs(from.below(api.MaxHands+1), 5, room, from.value)
		holdRun(t, from.words(room), hands, from.schedule(from.below(60)), from.below(120))
	}
}

// Count, Sum and Most in every order, by one hand and by three, up to each step.
func TestP5_1_EveryOrder(t *testing.T) {
	kinds := []api.Job{count(1, 3), sum, most(1, 3)}
	for _, order := range [][3]int{{0, 1, 2}, {0, 2, 1}, {1, 0, 2}, {1, 2, 0}, {2, 0, 1}, {2, 1, 0}} {
		a, b, c := kinds[order[0]], kinds[order[1]], kinds[order[2]]
		for _, words := range [][]uint64{{0, 0, 0, 0}, {5, math.MaxUint64, 9, 2}, {1, 2, 0, 3}} {
			for most := range 8 {
				holdRun(t, words, [][]api.Job{{a, b, c}}, nil, most)
			}
			for schedule := range schedules(3, 5) {
				holdRun(t, words, [][]api.Job{{a}, {b}, {c}}, schedule, 20)
			}
			for schedule := range schedules(2, 9) {
				holdRun(t, words, [][]api.Job{{a, b, c}, {c, a}}, schedule, 20)
			}
		}
	}
}

// A job touches its own word alone, and a Sum all stripes and no greatest.
func TestP5_1_WordsApart(t *testing.T) {
	for room := 1; room <= api.MaxRoom; room++ {
		for _, i := range []int{0, room / 2, room - 1} {
			words := slices.Repeat([]uint64{77}, 2*room)
			x, a := holdRun(t, words, [][]api.Job{{count(i, 1), most(i, 80), sum}}, nil, 200)
			words[i], words[room+i] = 78, 80
			all := uint64(77*room + 1)
			if !slices.Equal(x.Words, words) || !x.Ended || len(x.Steps) != 3+room || !sameAnswers(a, [][]api.Answer{{told(78), told(80), told(all)}}) {
				t.Error(room, i, x, a)
			}
		}
	}
}

// No hands, hands without jobs, no steps: the words are told as they are.
func TestP5_1_NothingToDo(t *testing.T) {
	words := []uint64{0, 1, 2, math.MaxUint64}
	for _, hands := range [][][]api.Job{nil, {}, {nil}, {nil, {}, nil}, make([][]api.Job, api.MaxHands)} {
		for _, most := range []int{0, 5} {
			for _, schedule := range [][]int{nil, {}, {3, -1}} {
				x, a, e := tally.Play(api.Shape{Room: 2}, words, hands, schedule, most)
				if e != api.OK || !sameTrace(x, api.Trace{Words: words, Ended: true}) || !sameAnswers(a, make([][]api.Answer, len(hands))) {
					t.Error(hands, x, a, e)
				}
			}
		}
		if w, a, e := tally.Free(api.Shape{Room: 2}, hands); e != api.OK || !slices.Equal(w, make([]uint64, 4)) || !sameAnswers(a, make([][]api.Answer, len(hands))) {
			t.Error(hands, w, a, e)
		}
	}
	x, a, e := tally.Play(api.Shape{Room: 2}, words, [][]api.Job{{sum}, nil}, []int{0}, 0)
	if e != api.OK || !sameTrace(x, api.Trace{Words: words}) || !sameAnswers(a, make([][]api.Answer, 2)) {
		t.Error("no step", x, a, e)
	}
}

// most in the middle of a task: what it has done so far stands in the words, and no answer is told.
func TestP5_1_MostInTheMiddle(t *testing.T) {
	hands := [][]api.Job{nil, {sum, most(0, 5), count(1, 2)}, {}}
	words := []uint64{3, 4, 0, 0}
	for most, c := range []struct {
		words []uint64
		told  []api.Answer
	}{
		{words, nil},
		{words, nil},
		{words, []api.Answer{told(7)}},
		{words, []api.Answer{told(7)}},
		{[]uint64{3, 4, 5, 0}, []api.Answer{told(7), told(5)}},
		{[]uint64{3, 6, 5, 0}, []api.Answer{told(7), told(5), told(6)}},
		{[]uint64{3, 6, 5, 0}, []api.Answer{told(7), told(5), told(6)}},
	} {
		x, a, e := tally.Play(api.Shape{Room: 2}, words, hands, []int{4}, most)
		if e != api.OK || len(x.Steps) != min(most, 5) || x.Ended != (most >= 5) || !slices.Equal(x.Words, c.words) || !sameAnswers(a, [][]api.Answer{nil, c.told, nil}) {
			t.Error(most, x, a, e)
		}
	}
}

// Schedules that are empty, shorter than the run, just as long, and longer.
func TestP5_1_Schedules(t *testing.T) {
	hands := [][]api.Job{{count(0, 2), sum, most(1, 6)}, nil, {most(1, 4), count(1, 1)}, {sum, most(1, 5)}}
	from := source(2)
	long := from.schedule(60)
	for n := range len(long) {
		if x, _ := holdRun(t, []uint64{1, 2, 3, 3}, hands, long[:n], 300); !x.Ended {
			t.Fatal(n, x)
		}
	}
}

// At the limits: the greatest room, 8 hands with 256 jobs each, a schedule and most of 65536.
func TestP5_1_AtTheLimits(t *testing.T) {
	from := source(3)
	hands := make([][]api.Job, api.MaxHands)
	for h := range hands {
		for i := range api.MaxJobs {
			j := api.Job{Kind: tally.Count + 2*from.below(2), A: i % api.MaxRoom, H: from.value()}
			if i%8 == 0 {
				j.Kind = tally.Sum
			}
			hands[h] = append(hands[h], j)
		}
	}
	words := from.words(api.MaxRoom)
	x, a := holdRun(t, words, hands, from.schedule(api.MaxSteps), api.MaxSteps)
	if !x.Ended || len(a[api.MaxHands-1]) != api.MaxJobs {
		t.Error(len(x.Steps), x.Ended)
	}
	holdEnd(t, words, hands, x.Words)
	w, a, e := tally.Free(api.Shape{Room: api.MaxRoom}, hands)
	if e != api.OK || len(a) != api.MaxHands || len(a[0]) != api.MaxJobs {
		t.Fatal(len(a), e)
	}
	holdEnd(t, make([]uint64, 2*api.MaxRoom), hands, w)
}
