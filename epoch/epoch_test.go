package epoch_test

import (
	"math"
	"slices"
	"testing"

	"midden/api"
	"midden/epoch"
	"midden/trial"
)

// An inOneGo is a job of a hand that nothing comes between, and what it is to tell.
type inOneGo struct {
	hand int
	job  api.Job
	want api.Answer
}

// holdGoes does one job behind the other, and tells the words in the end.
func holdGoes(t *testing.T, n int, words []uint64, goes []inOneGo) []uint64 {
	t.Helper()
	for i, g := range goes {
		hands := make([][]api.Job, g.hand+1)
		hands[g.hand] = []api.Job{g.job}
		x, a := epochs.HoldRun(t, room(n), words, hands, nil, api.MaxSteps)
		if !x.Ended || a[g.hand][0] != g.want {
			t.Fatalf("%d: %v on %v: %v; want %v", i, g.job, words, a, g.want)
		}
		words = x.Words
	}
	return words
}

func TestP11_1_Examples(t *testing.T) {
	done, not := trial.Told(0), api.Answer{}
	words := holdGoes(t, 2, fresh(2), []inOneGo{{0, enter, trial.Told(0)}, {1, retire(0), done}, {1, reap, trial.Told(0)}})
	if !slices.Equal(words, memory(1, []uint64{1}, 1, 0)) {
		t.Error(words)
	}
	words = holdGoes(t, 2, words, []inOneGo{{1, reap, trial.Told(0)}, {1, reap, trial.Told(0)}})
	if !slices.Equal(words, memory(1, []uint64{1}, 1, 0)) {
		t.Error(words)
	}
	words = holdGoes(t, 2, words, []inOneGo{{0, leave, done}, {1, reap, trial.Told(1)}})
	if !slices.Equal(words, memory(2, nil, 0, 0)) {
		t.Error(words)
	}
	words = holdGoes(t, 2, words, []inOneGo{{1, reap, trial.Told(0)}, {1, retire(1), done}, {0, retire(1), not}})
	if !slices.Equal(words, memory(3, nil, 0, 4)) {
		t.Error(words)
	}
	if k, e := epoch.Task(room(2), 0, retire(2)); k != nil || e != api.ErrArg {
		t.Error(k, e)
	}
	for _, j := range []api.Job{enter, leave, retire(0), reap} {
		if k, e := epoch.Task(room(2), 8, j); k != nil || e != api.ErrArg {
			t.Error(j, k, e)
		}
	}
	if epoch.Enter != 1 || epoch.Leave != 2 || epoch.Retire != 3 || epoch.Reap != 4 {
		t.Error("the kinds")
	}
}

// holdOne fails, if a job of one hand alone doesn't give just these steps, that answer and these words.
func holdOne(t *testing.T, h int, j api.Job, words []uint64, steps []api.Step, want api.Answer, after []uint64) {
	t.Helper()
	hands, answers := make([][]api.Job, h+1), make([][]api.Answer, h+1)
	hands[h], answers[h] = []api.Job{j}, []api.Answer{want}
	epochs.HoldSteps(t, room(len(words)-9), words, hands, nil, steps, answers, after)
}

// with: the same words, but for one.
func with(words []uint64, at int, v uint64) []uint64 {
	out := slices.Clone(words)
	out[at] = v
	return out
}

// The steps of an Enter and of a Leave, with every field, of each hand; whatever stood in its word, and with all epochs.
func TestP11_1_StepsOfEnterAndLeave(t *testing.T) {
	from := trial.Source(1)
	for _, n := range []int{1, 2, api.MaxRoom} {
		for h := range api.MaxHands {
			for _, e := range ends {
				for _, had := range []uint64{0, 5, e + 1, math.MaxUint64} {
					words := with(with(anyWords(&from, n), now, e), wordOf(h), had)
					holdOne(t, h, enter, words, []api.Step{trial.Load(h, now, e), trial.Store(h, wordOf(h), had, e+1)},
						trial.Told(e), with(words, wordOf(h), e+1))
					holdOne(t, h, leave, words, []api.Step{trial.Store(h, wordOf(h), had, 0)}, trial.Told(0), with(words, wordOf(h), 0))
				}
			}
		}
	}
}

// The steps of a Retire, with every field, at each place of each room, given up or not.
func TestP11_1_StepsOfARetire(t *testing.T) {
	from := trial.Source(2)
	for n := 1; n <= api.MaxRoom; n++ {
		for i := range n {
			at, h := placeAt(i), from.Below(api.MaxHands)
			for _, e := range ends {
				words := with(with(anyWords(&from, n), now, e), at, 0)
				holdOne(t, h, retire(i), words, []api.Step{trial.Load(h, now, e), trial.CAS(h, at, 0, e+1)}, trial.Told(0), with(words, at, e+1))
				for _, had := range []uint64{1, e | 1, math.MaxUint64} {
					words = with(words, at, had)
					holdOne(t, h, retire(i), words, []api.Step{trial.Load(h, now, e), trial.Lost(h, at, had)}, api.Answer{}, words)
				}
			}
		}
	}
}

// asked: a Reap's loads of the epoch and of the hands' words, up to the last one that is told.
func asked(h int, e uint64, hands ...uint64) []api.Step {
	out := []api.Step{trial.Load(h, now, e)}
	for i, w := range hands {
		out = append(out, trial.Load(h, wordOf(i), w))
	}
	return out
}

// turned: a Reap's steps up to its second load of the epoch, with all hands outside.
func turned(h int, e uint64) []api.Step {
	return append(asked(h, e, make([]uint64, 8)...), trial.CAS(h, now, e, e+1), trial.Load(h, now, e+1))
}

// The epoch is turned, where all hands are outside, or came in with it; each hand may reap.
func TestP11_1_ReapTurnsTheEpoch(t *testing.T) {
	for h := range api.MaxHands {
		for _, e := range ends {
			for in := range 256 {
				hands := make([]uint64, 8)
				for i := range hands {
					if in>>i&1 == 1 {
						hands[i] = e + 1
					}
				}
				steps := append(asked(h, e, hands...), trial.CAS(h, now, e, e+1), trial.Load(h, now, e+1), trial.Load(h, placeAt(0), 0))
				holdOne(t, h, reap, memory(e, hands, 0), steps, trial.Told(0), memory(e+1, hands, 0))
			}
		}
	}
}

// A hand's word that is neither 0 nor e + 1, at each hand: no word behind it is loaded, and the epoch stays.
func TestP11_1_ReapStopsAtAHand(t *testing.T) {
	for at := range api.MaxHands {
		for _, e := range ends {
			for _, word := range []uint64{e, e - 1, e + 2, e + 1<<32 + 1, e + 1<<63 + 1, 1, math.MaxUint64} {
				if word == 0 || word == e+1 {
					continue
				}
				hands := []uint64{0, e + 1, 0, e + 1, e + 1, 0, 0, e + 1}
				hands[at] = word
				for behind := at + 1; behind < 8; behind++ {
					hands[behind] = []uint64{0, e + 1, word, 9}[behind%4]
				}
				words := memory(e, hands, 0, 0)
				steps := append(asked(6, e, hands[:at+1]...), trial.Load(6, now, e), trial.Load(6, placeAt(0), 0), trial.Load(6, placeAt(1), 0))
				holdOne(t, 6, reap, words, steps, trial.Told(0), words)
			}
		}
	}
	// The hand that reaps counts as the others do.
	holdOne(t, 0, reap, memory(4, []uint64{4}, 3), append(asked(0, 4, 4), trial.Load(0, now, 4), trial.Load(0, placeAt(0), 3), trial.CAS(0, placeAt(0), 3, 0)),
		trial.Told(1), memory(4, []uint64{4}, 0))
}

// A place of each age, alone: w isn't 0, and w + 1 is at most f, as it is loaded behind the CAS.
func TestP11_1_ReapedByAge(t *testing.T) {
	hold := func(e, w uint64, reaped bool) {
		t.Helper()
		f := e + 1
		steps, want, after := append(turned(3, e), trial.Load(3, placeAt(0), w)), trial.Told(0), memory(f, nil, w)
		if reaped {
			steps, want, after = append(steps, trial.CAS(3, placeAt(0), w, 0)), trial.Told(1), memory(f, nil, 0)
		}
		holdOne(t, 3, reap, memory(e, nil, w), steps, want, after)
	}
	const end = math.MaxUint64
	for _, c := range []struct {
		e, w   uint64
		reaped bool
	}{
		{0, 0, false}, {0, 1, false}, {0, 2, false}, {1, 1, true}, {1, 2, false}, {1, 3, false}, {2, 1, true}, {2, 2, true}, {2, 3, false},
		{5, 1 << 63, false}, {1 << 63, 1<<63 - 1, true}, {1 << 63, 1 << 63, true}, {1 << 63, 1<<63 + 1, false}, {1 << 63, 1, true},
		{1<<63 - 2, 1<<63 - 1, false}, {1<<63 - 1, 1<<63 - 1, true}, {1<<63 - 1, 1 << 63, false}, {1 << 32, 1, true}, {1, 1 << 32, false},
		{end - 1, end - 1, true}, {end - 1, end - 2, true}, {end - 1, 1, true}, {end - 2, end - 1, false}, {end - 2, end - 2, true},
		{0, end, true}, {5, end, true}, {end - 1, end, true}, {end - 2, end, true}, // end + 1 is 0: at most any f
		{end, end, true}, {end, end - 1, false}, {end, 1, false}, {end, 0, false}, // f is 0
	} {
		hold(c.e, c.w, c.reaped)
	}
	for _, e := range ends {
		for d := range uint64(7) {
			hold(e, e+d-3, old(e+d-3, e+1))
		}
		for _, w := range trial.Values() {
			hold(e, w, old(w, e+1))
		}
	}
}

// Places of all ages, at each room: each has its own bit, that of place 63 among them.
func TestP11_1_Mask(t *testing.T) {
	hold := func(ages ...uint64) {
		t.Helper()
		const e = 6
		words := memory(e, nil, ages...)
		steps, after, mask := turned(1, e), with(words, now, e+1), uint64(0)
		for i, w := range ages {
			steps = append(steps, trial.Load(1, placeAt(i), w))
			if w != 0 && w <= e {
				steps = append(steps, trial.CAS(1, placeAt(i), w, 0))
				after[placeAt(i)] = 0
				mask += uint64(1) << i
			}
		}
		holdOne(t, 1, reap, words, steps, trial.Told(mask), after)
	}
	from := trial.Source(3)
	for n := 1; n <= api.MaxRoom; n++ {
		hold(make([]uint64, n)...)
		hold(slices.Repeat([]uint64{6}, n)...)
		hold(slices.Repeat([]uint64{7}, n)...)
		for i := range n {
			hold(with(make([]uint64, n), i, 6)...)
			hold(with(slices.Repeat([]uint64{7}, n), i, 1)...)
			hold(with(slices.Repeat([]uint64{6}, n), i, 0)...)
		}
		for range 10 {
			ages := make([]uint64, n)
			for i := range ages {
				ages[i] = uint64(from.Below(9))
			}
			hold(ages...)
		}
	}
	last := fresh(api.MaxRoom)
	last[now], last[placeAt(63)] = 4, 1
	words := holdGoes(t, api.MaxRoom, last, []inOneGo{{2, reap, trial.Told(1 << 63)}, {2, retire(63), trial.Told(0)}, {7, reap, trial.Told(0)}, {7, reap, trial.Told(1 << 63)}})
	if !slices.Equal(words, append([]uint64{7}, make([]uint64, 8+api.MaxRoom)...)) {
		t.Error(words)
	}
}

// The last step is the load of the last place's word, or its CAS, done or not; a run with one step less has not ended.
func TestP11_1_WhereAReapEnds(t *testing.T) {
	for _, n := range []int{1, 2, api.MaxRoom} {
		for _, c := range []struct {
			last uint64
			more int
			told uint64
		}{{0, 0, 0}, {4, 0, 0}, {3, 1, 1 << (n - 1)}} {
			words := with(fresh(n), placeAt(n-1), c.last)
			words[now] = 3
			steps := 11 + n + c.more
			for most := range steps + 2 {
				x, a := epochs.HoldRun(t, room(n), words, [][]api.Job{nil, {reap}}, nil, most)
				if ended := most >= steps; x.Ended != ended || len(x.Steps) != min(most, steps) || ended && a[1][0] != trial.Told(c.told) || !ended && len(a[1]) > 0 {
					t.Fatal(n, c, most, len(x.Steps), a)
				}
			}
		}
	}
	// Hand 0 has reaped the last place between hand 1's load and its CAS: that ends hand 1's Reap all the same.
	schedule := slices.Concat(slices.Repeat([]int{1}, 14), make([]int, 14), []int{1})
	want := append(turned(1, 3), trial.Load(1, placeAt(0), 2), trial.CAS(1, placeAt(0), 2, 0), trial.Load(1, placeAt(1), 2), trial.Lost(1, placeAt(1), 0))
	x, a := epochs.HoldRun(t, room(2), memory(3, nil, 2, 2), [][]api.Job{{reap}, {reap}}, schedule, 100)
	if !x.Ended || !slices.Equal(ofHand(x, 1), want) || a[0][0] != trial.Told(2) || a[1][0] != trial.Told(1) {
		t.Error(x, a)
	}
}

// ofHand: a hand's steps.
func ofHand(x api.Trace, h int) []api.Step {
	return slices.DeleteFunc(slices.Clone(x.Steps), func(s api.Step) bool { return s.Hand != h })
}

// The CAS of the epoch is not done: another hand has turned it since, once or more.
func TestP11_1_EpochTurnedByAnother(t *testing.T) {
	for _, e := range ends {
		for by := 1; by <= 3; by++ {
			for made := 1; made <= 9; made++ {
				is := e + uint64(by)
				schedule := slices.Concat(slices.Repeat([]int{1}, made), make([]int, 12*by), make([]int, 12))
				x, a := epochs.HoldRun(t, room(1), memory(e, nil, 0), [][]api.Job{reaps(by), {reap}}, schedule, 100)
				want := append(asked(1, e, make([]uint64, 8)...), trial.Lost(1, now, is), trial.Load(1, now, is), trial.Load(1, placeAt(0), 0))
				if !x.Ended || !slices.Equal(ofHand(x, 1), want) || a[1][0] != trial.Told(0) || x.Words[now] != is {
					t.Fatal(e, by, made, x, a)
				}
			}
		}
	}
	// Two Reaps side by side: one turns the epoch, the other finds it turned, and reaps by it.
	schedule := slices.Repeat([]int{0, 1}, 10)
	steps := []api.Step{trial.Load(0, now, 1), trial.Load(1, now, 1)}
	for i := range 8 {
		steps = append(steps, trial.Load(0, wordOf(i), 0), trial.Load(1, wordOf(i), 0))
	}
	steps = append(steps, trial.CAS(0, now, 1, 2), trial.Lost(1, now, 2),
		trial.Load(1, now, 2), trial.Load(1, placeAt(0), 1), trial.CAS(1, placeAt(0), 1, 0), trial.Load(0, now, 2), trial.Load(0, placeAt(0), 0))
	epochs.HoldSteps(t, room(1), memory(1, nil, 1), [][]api.Job{{reap}, {reap}}, append(schedule, 1, 1, 1, 0, 0), steps,
		[][]api.Answer{{trial.Told(0)}, {trial.Told(1)}}, memory(2, nil, 0))
}

// The epoch is turned by another hand between a Reap that stops at a hand and its second load: f is the later one.
func TestP11_1_EpochLoadedTwice(t *testing.T) {
	schedule := slices.Concat([]int{1, 1, 0}, make([]int, 12))
	steps := slices.Concat(asked(1, 4, 4), []api.Step{trial.Store(0, wordOf(0), 4, 0)}, turned(0, 4),
		[]api.Step{trial.Load(0, placeAt(0), 5), trial.Load(1, now, 5), trial.Load(1, placeAt(0), 5)})
	epochs.HoldSteps(t, room(1), memory(4, []uint64{4}, 5), [][]api.Job{{leave, reap}, {reap}}, schedule, steps,
		[][]api.Answer{{trial.Told(0), trial.Told(0)}, {trial.Told(0)}}, memory(5, nil, 5))
	// With a second turn the first Reap, which has turned nothing, has the place.
	x, a := epochs.HoldRun(t, room(1), memory(4, []uint64{4}, 5), [][]api.Job{{leave, reap, reap}, {reap}},
		slices.Concat([]int{1, 1, 0}, make([]int, 23), slices.Repeat([]int{1}, 3)), 100)
	want := append(asked(1, 4, 4), trial.Load(1, now, 6), trial.Load(1, placeAt(0), 5), trial.CAS(1, placeAt(0), 5, 0))
	if !x.Ended || !slices.Equal(ofHand(x, 1), want) || a[1][0] != trial.Told(1) || a[0][2] != trial.Told(0) {
		t.Error(x, a)
	}
}

// Between a Reap's load of a place's word and its CAS, another hand reaps the place; or reaps it, and it is given up
// again, with a later epoch, or by a Retire that has loaded the epoch long ago. Between its load of a 0 and its next
// step, the place is given up: that is not for this Reap.
func TestP11_1_PlaceTouchedByAnother(t *testing.T) {
	first := append(turned(1, 1), trial.Load(1, placeAt(0), 1))
	hold := func(hands [][]api.Job, schedule []int, last []api.Step, want uint64, left []uint64) {
		t.Helper()
		x, a := epochs.HoldRun(t, room(2), memory(1, nil, 1, 0), hands, append(schedule, slices.Repeat([]int{1}, 20)...), 200)
		if own := ofHand(x, 1); !x.Ended || !slices.Equal(own, append(slices.Clip(first), last...)) || a[1][0] != trial.Told(want) || !slices.Equal(x.Words, left) {
			t.Errorf("%v: %v, %v, %v", hands, own, a, x.Words)
		}
	}
	amid := slices.Repeat([]int{1}, 12)
	reapIt := make([]int, 14) // with a CAS of a place: 1 + 8 + 1 + 1 + 3
	lost := []api.Step{trial.Lost(1, placeAt(0), 0), trial.Load(1, placeAt(1), 0)}
	hold([][]api.Job{{reap}, {reap}}, slices.Concat(amid, reapIt), lost, 0, memory(3, nil, 0, 0))
	lost[0] = trial.Lost(1, placeAt(0), 4)
	hold([][]api.Job{{reap, retire(0)}, {reap}}, slices.Concat(amid, reapIt, []int{0, 0}), lost, 0, memory(3, nil, 4, 0))
	hold([][]api.Job{{retire(1)}, {reap}}, slices.Concat(amid, []int{0, 0}), []api.Step{trial.CAS(1, placeAt(0), 1, 0), trial.Load(1, placeAt(1), 3)}, 1, memory(2, nil, 0, 3))

	// Hand 0's Retire has loaded the epoch 0: the word is the same one again, and the Reap's CAS is done.
	hands := [][]api.Job{{retire(0)}, {retire(0), reap, reap, reap}, {reap}}
	schedule := slices.Concat([]int{0}, slices.Repeat([]int{1}, 2+12+11+1), slices.Repeat([]int{2}, 13), []int{0, 1})
	x, a, _ := holdWhole(t, 1, hands, schedule)
	if !slices.Equal(a[0], []api.Answer{trial.Told(0)}) || a[1][2] != trial.Told(1) || a[2][0] != trial.Told(1) || x.Words[placeAt(0)] != 0 {
		t.Error(x, a)
	}

	// Two Retires have loaded the epoch 5, two turns ago. Of the one whose place the Reap has passed it sees nothing.
	x, a = epochs.HoldRun(t, room(2), memory(5, nil, 0, 0), [][]api.Job{{reap, reap}, {retire(0)}, {retire(1)}},
		slices.Concat([]int{2, 1}, make([]int, 13+12), []int{2, 1}, make([]int, 2)), 100)
	want := append(turned(0, 6), trial.Load(0, placeAt(0), 0), trial.Load(0, placeAt(1), 6), trial.CAS(0, placeAt(1), 6, 0))
	if !x.Ended || !slices.Equal(ofHand(x, 0)[13:], want) || a[0][1] != trial.Told(0b10) || !slices.Equal(x.Words, memory(7, nil, 6, 0)) {
		t.Error(x, a)
	}
}

// e + 1 and w + 1 are reckoned modulo 2^64: with the last epoch, who comes in is told as outside, and a place that is
// given up as not.
func TestP11_1_EpochAroundTheEnd(t *testing.T) {
	const end = math.MaxUint64
	words := holdGoes(t, 2, memory(end, []uint64{0, 0, 7}, 0, 3), []inOneGo{
		{0, enter, trial.Told(end)}, {1, retire(0), trial.Told(0)}, {1, retire(0), trial.Told(0)}, {1, retire(1), api.Answer{}}, {2, leave, trial.Told(0)},
	})
	if !slices.Equal(words, memory(end, nil, 0, 3)) {
		t.Error(words)
	}
	words = holdGoes(t, 2, words, []inOneGo{{1, reap, trial.Told(0)}})
	if !slices.Equal(words, memory(0, nil, 0, 3)) {
		t.Error(words)
	}
	words = holdGoes(t, 2, memory(end-1, []uint64{end, 0, 0, end}, end-1, end), []inOneGo{{1, reap, trial.Told(3)}})
	if !slices.Equal(words, memory(end, []uint64{end, 0, 0, end}, 0, 0)) {
		t.Error(words)
	}
	// A hand with the word end stands against the epoch end, whose e + 1 is 0.
	words = holdGoes(t, 2, words, []inOneGo{{1, retire(0), trial.Told(0)}, {1, reap, trial.Told(0)}, {0, leave, trial.Told(0)}, {1, reap, trial.Told(0)}})
	if words[now] != end {
		t.Error(words)
	}
	words = holdGoes(t, 2, words, []inOneGo{{3, enter, trial.Told(end)}, {1, reap, trial.Told(0)}, {5, enter, trial.Told(0)}, {1, reap, trial.Told(0)}})
	if !slices.Equal(words, memory(1, []uint64{5: 1}, 0, 0)) {
		t.Error(words)
	}
}

// Jobs of several hands in every order of their steps, from words that are not fresh.
func TestP11_1_EveryOrder(t *testing.T) {
	const end = math.MaxUint64
	for _, hands := range [][][]api.Job{
		{{enter, leave}, {reap}},
		{{retire(0)}, {reap}, {retire(0)}},
		{{reap}, {reap}},
		{{enter}, {retire(0)}, {reap}},
		{{leave, retire(0)}, {reap}},
	} {
		for _, words := range [][]uint64{
			memory(3, nil, 2), memory(3, []uint64{3}, 3), memory(3, []uint64{4, 4}, 1), memory(3, []uint64{0, 9}, 2),
			memory(end, []uint64{end}, end), memory(end-1, nil, end-1), memory(end-2, []uint64{end - 1}, 0), memory(0, nil, end),
		} {
			everyOrder(t, 1, words, hands, func(schedule []int) {
				epochs.HoldRun(t, room(1), words, hands, schedule, len(schedule))
			})
		}
	}
	two := [][]api.Job{{reap}, {retire(1), retire(0)}}
	everyOrder(t, 2, memory(3, []uint64{7: 4}, 3, 2), two, func(schedule []int) {
		epochs.HoldRun(t, room(2), memory(3, []uint64{7: 4}, 3, 2), two, schedule, len(schedule))
	})
}

func TestP11_1_SizeAndFresh(t *testing.T) {
	epochs.HoldFresh(t, api.MaxRoom, fresh)
}

// A task alone on memories by hand: shorter than the layer's, longer, and none at all.
func TestP11_1_TaskAlone(t *testing.T) {
	from := trial.Source(4)
	for _, n := range []int{1, 2, 3, 7, api.MaxRoom} {
		for h := range api.MaxHands {
			for _, j := range []api.Job{enter, leave, retire(0), retire(n - 1), reap} {
				for range 10 {
					words := append(anyWords(&from, n), anyWords(&from, n)...)
					words = words[:from.Below(len(words)+1)]
					epochs.HoldTask(t, room(n), h, j, words, 200)
				}
				for _, size := range []int{0, 1, 2, 8, 9, 10, 8 + n} {
					epochs.HoldTask(t, room(n), h, j, anyWords(&from, 10)[:min(size, 19)], 200)
				}
				epochs.HoldTask(t, room(n), h, j, nil, 200)
			}
		}
	}
}

func TestP11_1_AnyWordsByModel(t *testing.T) {
	from := trial.Source(5)
	ended, reaped, refused, turns, lostTurns, lostPlaces := 0, 0, 0, 0, 0, 0
	for range 6000 {
		n := 1 + from.Below(4)
		if from.Below(20) == 0 {
			n = 1 + from.Below(api.MaxRoom)
		}
		hands := anyJobs(&from, n, from.Below(api.MaxHands+1), 5)
		x, a := epochs.HoldRun(t, room(n), anyWords(&from, n), hands, from.Schedule(from.Below(150)), from.Below(400))
		if x.Ended {
			ended++
		}
		for _, s := range x.Steps {
			switch {
			case s.Act != api.CAS:
			case s.At == now && s.OK:
				turns++
			case s.At == now:
				lostTurns++
			case !s.OK:
				lostPlaces++
			}
		}
		for h := range a {
			for k, told := range a[h] {
				if hands[h][k].Kind == epoch.Reap && told.Val != 0 {
					reaped++
				}
				if !told.OK {
					refused++
				}
			}
		}
	}
	if ended < 1000 || ended > 5500 || min(reaped, refused, turns, lostTurns, lostPlaces) < 500 {
		t.Error("some kind of run comes too seldom:", ended, reaped, refused, turns, lostTurns, lostPlaces)
	}
}

// most in the middle of a task: what it has done so far stands in the words, and no answer is told.
func TestP11_1_MostInTheMiddle(t *testing.T) {
	hands := [][]api.Job{{enter, retire(0), leave, reap}, nil, {}}
	ends := []int{2, 4, 5, 19}
	all := []api.Answer{trial.Told(1), trial.Told(0), trial.Told(0), trial.Told(0b10)}
	for most := range 22 {
		x, a := epochs.HoldRun(t, room(2), memory(1, nil, 0, 1), hands, []int{4}, most)
		told, want := 0, memory(1, nil, 0, 1)
		for told < 4 && ends[told] <= most {
			told++
		}
		if most >= 2 && most < 5 {
			want[wordOf(0)] = 2
		}
		if most >= 4 {
			want[placeAt(0)] = 2
		}
		if most >= 5+10 {
			want[now] = 2
		}
		if most >= 19 {
			want[placeAt(1)] = 0
		}
		if x.Ended != (most >= 19) || len(x.Steps) != min(most, 19) || !slices.Equal(x.Words, want) || !trial.SameAnswers(a, [][]api.Answer{all[:told], nil, nil}) {
			t.Error(most, x, a, want, told)
		}
	}
	from := trial.Source(6)
	for most := range 150 {
		holdBook(t, 3, [][]api.Job{{enter, retire(0), leave, reap}, nil, {retire(1), reap, reap}, {enter, retire(2), reap}}, from.Schedule(60), most)
	}
}

// Schedules that are empty, shorter than the run, just as long, and longer.
func TestP11_1_Schedules(t *testing.T) {
	from := trial.Source(7)
	long := from.Schedule(250)
	for n := range len(long) {
		holdWhole(t, 3, [][]api.Job{{enter, retire(0), leave, reap, reap}, nil, {retire(0), reap, reap}, {}, {enter, retire(2), reap, leave}}, long[:n])
	}
}

// At the limits: 8 hands of the greatest room with 256 jobs each, a schedule and most of 65536.
func TestP11_1_AtTheLimits(t *testing.T) {
	from := trial.Source(8)
	hands := slices.Repeat([][]api.Job{reaps(api.MaxJobs)}, api.MaxHands)
	for _, schedule := range [][]int{from.Schedule(api.MaxSteps), make([]int, api.MaxSteps)} {
		x, a, _ := holdBook(t, api.MaxRoom, hands, schedule, api.MaxSteps)
		if x.Ended || len(x.Steps) != api.MaxSteps || len(a[0]) < 50 {
			t.Error(x.Ended, len(x.Steps), len(a[0]))
		}
	}
	for h := range hands {
		hands[h] = slices.Repeat([]api.Job{enter, retire(h), leave, reap}, api.MaxJobs/4)
	}
	holdWhole(t, api.MaxHands, hands, from.Schedule(api.MaxSteps))
}
