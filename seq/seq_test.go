package seq_test

import (
	"math"
	"slices"
	"testing"

	"midden/api"
	"midden/seq"
	"midden/trial"
)

func TestP10_1_Examples(t *testing.T) {
	hands := [][]api.Job{{write(5)}, {read}}
	five := [][]api.Answer{{trial.Told(2)}, {trial.Told(5)}}
	seqs.HoldSteps(t, room(2), []uint64{0, 0, 0}, hands, []int{1, 1, 1, 1}, []api.Step{
		trial.Load(1, 0, 0), trial.Load(1, 1, 0), trial.Load(1, 2, 0), trial.Load(1, 0, 0),
		trial.Load(0, 0, 0), trial.Store(0, 0, 0, 1), trial.Store(0, 1, 0, 5), trial.Store(0, 2, 0, 5), trial.Store(0, 0, 1, 2),
	}, [][]api.Answer{{trial.Told(2)}, {trial.Told(0)}}, []uint64{2, 5, 5})
	seqs.HoldSteps(t, room(2), []uint64{0, 0, 0}, hands, []int{0, 0, 0, 1, 1, 0, 0, 1, 1, 1, 1}, []api.Step{
		trial.Load(0, 0, 0), trial.Store(0, 0, 0, 1), trial.Store(0, 1, 0, 5),
		trial.Load(1, 0, 1), trial.Load(1, 0, 1),
		trial.Store(0, 2, 0, 5), trial.Store(0, 0, 1, 2),
		trial.Load(1, 0, 2), trial.Load(1, 1, 5), trial.Load(1, 2, 5), trial.Load(1, 0, 2),
	}, five, []uint64{2, 5, 5})
	seqs.HoldSteps(t, room(2), []uint64{0, 0, 0}, hands, []int{1, 1, 0, 0, 0, 1, 1, 1, 0, 0, 1, 1, 1, 1}, []api.Step{
		trial.Load(1, 0, 0), trial.Load(1, 1, 0),
		trial.Load(0, 0, 0), trial.Store(0, 0, 0, 1), trial.Store(0, 1, 0, 5),
		trial.Load(1, 2, 0), trial.Load(1, 0, 1), trial.Load(1, 0, 1),
		trial.Store(0, 2, 0, 5), trial.Store(0, 0, 1, 2),
		trial.Load(1, 0, 2), trial.Load(1, 1, 5), trial.Load(1, 2, 5), trial.Load(1, 0, 2),
	}, five, []uint64{2, 5, 5})
	if seq.Write != 1 || seq.Read != 2 {
		t.Error("the kinds", seq.Write, seq.Read)
	}
}

// The steps of a Write, with every field, at each room, from versions at both ends on, even ones and odd ones.
func TestP10_1_StepsOfAWrite(t *testing.T) {
	for n := 1; n <= api.MaxRoom; n++ {
		for _, v := range versions {
			for _, value := range []uint64{0, 9, math.MaxUint64} {
				words := filled(n, v, 0)
				steps := []api.Step{trial.Load(0, version, v), trial.Store(0, version, v, v+1)}
				for i := 1; i <= n; i++ {
					words[i] = uint64(i) << 32
					steps = append(steps, trial.Store(0, i, words[i], value))
				}
				steps = append(steps, trial.Store(0, version, v+1, v+2))
				seqs.HoldSteps(t, room(n), words, [][]api.Job{{write(value)}}, nil, steps, [][]api.Answer{{trial.Told(v + 2)}}, filled(n, v+2, value))
			}
		}
	}
}

// readSteps: the steps of a Read that nothing comes between.
func readSteps(h int, words []uint64) []api.Step {
	var out []api.Step
	for i, w := range words {
		out = append(out, trial.Load(h, i, w))
	}
	return append(out, trial.Load(h, version, words[version]))
}

// The steps of a Read, with every field, at each room and of each hand.
func TestP10_1_StepsOfARead(t *testing.T) {
	for n := 1; n <= api.MaxRoom; n++ {
		for _, v := range versions {
			if v%2 == 1 {
				continue
			}
			for h := range api.MaxHands {
				hands, answers := make([][]api.Job, h+1), make([][]api.Answer, h+1)
				words := filled(n, v, v+3)
				hands[h], answers[h] = []api.Job{read}, []api.Answer{trial.Told(v + 3)}
				seqs.HoldSteps(t, room(n), words, hands, nil, readSteps(h, words), answers, words)
			}
		}
	}
}

// The record's words are not alike: OK false, with the first one. It counts for nothing where the other one stands, nor
// which bit of it is another one.
func TestP10_1_WordsNotAlike(t *testing.T) {
	hold := func(words []uint64, want api.Answer) {
		t.Helper()
		seqs.HoldSteps(t, room(len(words)-1), words, [][]api.Job{nil, {read}}, nil, readSteps(1, words), [][]api.Answer{nil, {want}}, words)
	}
	for n := 2; n <= api.MaxRoom; n++ {
		for i := 1; i <= n; i++ {
			for _, other := range []uint64{1, 1 << 31, 1 << 32, 1 << 63} {
				words := filled(n, 6, 8)
				words[i] ^= other
				hold(words, torn(words[1]))
			}
		}
	}
	hold([]uint64{4, 7, 8}, torn(7))
	hold([]uint64{4, 0, 8}, torn(0))
	hold([]uint64{4, 8, 0}, torn(8))
	hold([]uint64{4, 7, 8, 7}, torn(7))
	hold([]uint64{4, 7, 8, 8}, torn(7))
	hold([]uint64{4, 7, 7, 8}, torn(7))
	hold([]uint64{4, 0, 1, 0, 1, 0}, torn(0))
	hold([]uint64{4, 0, 0, 0}, trial.Told(0))
	hold([]uint64{4, 7}, trial.Told(7)) // one word is like itself
	hold([]uint64{4, math.MaxUint64}, trial.Told(math.MaxUint64))
}

// A version that is odd at the beginning: a Read loads it again and again.
func TestP10_1_OddVersion(t *testing.T) {
	for _, v := range versions {
		if v%2 == 0 {
			continue
		}
		for _, n := range []int{1, 2, api.MaxRoom} {
			x, a, e := seq.Play(room(n), filled(n, v, 5), [][]api.Job{nil, {read}}, nil, 500)
			if e != api.OK || x.Ended || len(x.Steps) != 500 || len(a[1]) != 0 || !slices.Equal(x.Words, filled(n, v, 5)) {
				t.Fatal(v, n, len(x.Steps), a, e)
			}
			for i, s := range x.Steps {
				if s != trial.Load(1, version, v) {
					t.Fatal(v, n, i, s)
				}
			}
		}
	}
	x, a, e := seq.Play(room(1), []uint64{1, 5}, [][]api.Job{{read}, {read, read}}, nil, api.MaxSteps)
	if e != api.OK || x.Ended || len(x.Steps) != api.MaxSteps || len(a[0])+len(a[1]) != 0 {
		t.Error("as long as a run may be", len(x.Steps), a, e)
	}
}

// From an odd version on it is even while it is written, and odd behind: a Read may end amid the Write, torn.
func TestP10_1_OddVersionIsWritten(t *testing.T) {
	for _, v := range versions {
		if v%2 == 0 {
			continue
		}
		words := []uint64{v, 3, 3}
		seqs.HoldSteps(t, room(2), words, [][]api.Job{{write(5)}, {read}}, []int{1, 0, 0, 0, 1, 1, 1, 1}, []api.Step{
			trial.Load(1, 0, v), trial.Load(0, 0, v), trial.Store(0, 0, v, v+1), trial.Store(0, 1, 3, 5),
			trial.Load(1, 0, v+1), trial.Load(1, 1, 5), trial.Load(1, 2, 3), trial.Load(1, 0, v+1),
			trial.Store(0, 2, 3, 5), trial.Store(0, 0, v+1, v+2),
		}, [][]api.Answer{{trial.Told(v + 2)}, {torn(5)}}, []uint64{v + 2, 5, 5})
		x, a := seqs.HoldRun(t, room(2), words, [][]api.Job{{write(5)}, {read}}, make([]int, 5), 100)
		if x.Ended || len(x.Steps) != 100 || len(a[1]) != 0 {
			t.Error(v, len(x.Steps), a)
		}
	}
}

// v + 1 and v + 2 are reckoned modulo 2^64.
func TestP10_1_VersionAroundTheEnd(t *testing.T) {
	const end = math.MaxUint64
	seqs.HoldSteps(t, room(1), []uint64{end - 1, 3}, [][]api.Job{{write(5), write(6)}, {read}}, []int{1, 1, 0, 0, 1, 1, 0, 0, 1, 1, 1}, []api.Step{
		trial.Load(1, 0, end-1), trial.Load(1, 1, 3), trial.Load(0, 0, end-1), trial.Store(0, 0, end-1, end),
		trial.Load(1, 0, end), trial.Load(1, 0, end), trial.Store(0, 1, 3, 5), trial.Store(0, 0, end, 0),
		trial.Load(1, 0, 0), trial.Load(1, 1, 5), trial.Load(1, 0, 0),
		trial.Load(0, 0, 0), trial.Store(0, 0, 0, 1), trial.Store(0, 1, 5, 6), trial.Store(0, 0, 1, 2),
	}, [][]api.Answer{{trial.Told(0), trial.Told(2)}, {trial.Told(5)}}, []uint64{2, 6})
	seqs.HoldSteps(t, room(1), []uint64{end, 3}, [][]api.Job{{write(5)}, {read}}, []int{0, 1, 0, 1, 1, 1}, []api.Step{
		trial.Load(0, 0, end), trial.Load(1, 0, end), trial.Store(0, 0, end, 0),
		trial.Load(1, 0, 0), trial.Load(1, 1, 3), trial.Load(1, 0, 0), trial.Store(0, 1, 3, 5), trial.Store(0, 0, 0, 1),
	}, [][]api.Answer{{trial.Told(1)}, {trial.Told(3)}}, []uint64{1, 5})
}

// A whole Write comes between any two steps of a Read, at each room: the Read begins again, and has the Write's value.
func TestP10_1_BeginsAgain(t *testing.T) {
	for n := 1; n <= api.MaxRoom; n++ {
		for made := 1; made <= n+1; made++ {
			was, is := filled(n, 8, 3), filled(n, 10, 5)
			first := readSteps(1, was)[:made]
			for i := made; i <= n; i++ {
				first = append(first, trial.Load(1, i, 5))
			}
			steps := slices.Concat(first[:made], []api.Step{trial.Load(0, version, 8), trial.Store(0, version, 8, 9)})
			for i := 1; i <= n; i++ {
				steps = append(steps, trial.Store(0, i, 3, 5))
			}
			steps = slices.Concat(steps, []api.Step{trial.Store(0, version, 9, 10)}, first[made:], []api.Step{trial.Load(1, version, 10)}, readSteps(1, is))
			schedule := slices.Concat(slices.Repeat([]int{1}, made), make([]int, n+3))
			seqs.HoldSteps(t, room(n), was, [][]api.Job{{write(5)}, {read}}, schedule, steps, [][]api.Answer{{trial.Told(10)}, {trial.Told(5)}}, is)
		}
	}
}

// What the words were ahead of the beginning again counts for nothing: neither that they were torn, nor the first one.
func TestP10_1_ForgetsWhatItLoaded(t *testing.T) {
	seqs.HoldSteps(t, room(3), []uint64{0, 1, 2, 3}, [][]api.Job{{write(9)}, {read}}, []int{1, 1, 1, 1, 0, 0, 1, 0, 0, 0, 0, 1}, []api.Step{
		trial.Load(1, 0, 0), trial.Load(1, 1, 1), trial.Load(1, 2, 2), trial.Load(1, 3, 3),
		trial.Load(0, 0, 0), trial.Store(0, 0, 0, 1), trial.Load(1, 0, 1),
		trial.Store(0, 1, 1, 9), trial.Store(0, 2, 2, 9), trial.Store(0, 3, 3, 9), trial.Store(0, 0, 1, 2),
		trial.Load(1, 0, 2), trial.Load(1, 1, 9), trial.Load(1, 2, 9), trial.Load(1, 3, 9), trial.Load(1, 0, 2),
	}, [][]api.Answer{{trial.Told(2)}, {trial.Told(9)}}, []uint64{2, 9, 9, 9})
	// Another Write has only loaded the version: that doesn't count yet.
	seqs.HoldSteps(t, room(1), []uint64{0, 1}, [][]api.Job{{write(9)}, {read}}, []int{1, 1, 0, 1}, []api.Step{
		trial.Load(1, 0, 0), trial.Load(1, 1, 1), trial.Load(0, 0, 0), trial.Load(1, 0, 0),
		trial.Store(0, 0, 0, 1), trial.Store(0, 1, 1, 9), trial.Store(0, 0, 1, 2),
	}, [][]api.Answer{{trial.Told(2)}, {trial.Told(1)}}, []uint64{2, 9})
}

// A Write amid each try: a Read begins again as often as there are Writes.
func TestP10_1_AgainAndAgain(t *testing.T) {
	for _, n := range []int{1, 2, 5, api.MaxRoom} {
		for _, times := range []int{0, 1, 2, 30} {
			var schedule []int
			for k := range times {
				made := 1 + k%(n+1)
				schedule = slices.Concat(schedule, slices.Repeat([]int{1}, made), make([]int, n+3), slices.Repeat([]int{1}, n+2-made))
			}
			schedule = append(schedule, slices.Repeat([]int{1}, n+2)...)
			var values []uint64
			for k := range times + 1 {
				values = append(values, uint64(100+k))
			}
			x, a := holdWhole(t, n, [][]api.Job{writes(values...), {read}}, schedule)
			want := trial.Told(0)
			if times > 0 {
				want.Val = values[times-1]
			}
			if a[1][0] != want || len(x.Steps) != (n+2)*(times+1)+(n+3)*(times+1) {
				t.Error(n, times, len(x.Steps), a[1])
			}
		}
	}
}

// Writes and Reads in every order of their steps, from words that are not fresh.
func TestP10_1_EveryOrder(t *testing.T) {
	for _, hands := range [][][]api.Job{
		{{write(5)}, {read}},
		{{write(5), read}, {read}},
		{writes(5, 6), {read}},
		{{write(5)}, {read}, {read}},
		{nil, {read}, {read}},
	} {
		for _, words := range [][]uint64{{0, 3, 4}, {1, 3, 4}, {math.MaxUint64 - 1, 5, 5}, {math.MaxUint64, 6, 5}, {7, 6}, {1 << 63, 5}} {
			n := len(words) - 1
			everyOrder(t, n, words, hands, func(schedule []int) {
				seqs.HoldRun(t, room(n), words, hands, schedule, len(schedule))
			})
		}
	}
}

func TestP10_1_SizeAndFresh(t *testing.T) {
	seqs.HoldFresh(t, api.MaxRoom, func(n int) []uint64 { return make([]uint64, 1+n) })
}

// ErrShape, then ErrKind, then ErrArg: a Write is hand 0's alone, a Read any hand's, whatever number it has.
func TestP10_1_TaskErrors(t *testing.T) {
	seqs.HoldTaskErrors(t, api.MaxRoom, seq.Read, func(hand, kind int) api.Errno {
		switch {
		case kind != seq.Write && kind != seq.Read:
			return api.ErrKind
		case kind == seq.Write && hand != 0:
			return api.ErrArg
		}
		return api.OK
	})
	for n := 1; n <= api.MaxRoom; n++ {
		for _, hand := range []int{-1, 0, 1, api.MaxHands} {
			if k, e := seq.Task(room(n), hand, read); k == nil || e != api.OK {
				t.Error(n, hand, k, e)
			}
			if k, e := seq.Task(room(n), hand, write(1)); (k != nil) != (hand == 0) || (e == api.OK) != (hand == 0) {
				t.Error(n, hand, k, e)
			}
		}
	}
}

// A task alone on memories by hand: shorter than the layer's, longer, and none at all; a Read by a hand of any number.
func TestP10_1_TaskAlone(t *testing.T) {
	from := trial.Source(1)
	for _, n := range []int{1, 2, 3, 7, api.MaxRoom} {
		for range 60 {
			words := append(anyWords(&from, n), anyWords(&from, n)...)
			words = words[:from.Below(len(words)+1)]
			seqs.HoldTask(t, room(n), 0, write(from.Value()), words, 100)
			seqs.HoldTask(t, room(n), from.End(), read, words, 100)
			seqs.HoldTask(t, room(n), from.Below(20), read, words, 100)
		}
		seqs.HoldTask(t, room(n), 0, write(5), nil, 100)
		seqs.HoldTask(t, room(n), 0, write(5), []uint64{}, 100)
		seqs.HoldTask(t, room(n), -1, read, nil, 100)
		seqs.HoldTask(t, room(n), 1<<40, read, []uint64{}, 100)
		seqs.HoldTask(t, room(n), 3, read, []uint64{2}, 100)
		seqs.HoldTask(t, room(n), 3, read, []uint64{2, 9}, 100)
	}
}

func TestP10_1_AnyWordsByModel(t *testing.T) {
	from := trial.Source(2)
	ended, ok, not := 0, 0, 0
	for range 6000 {
		n := 1 + from.Below(4)
		if from.Below(20) == 0 {
			n = 1 + from.Below(api.MaxRoom)
		}
		hands := anyJobs(&from, from.Below(api.MaxHands+1), 4)
		x, a := seqs.HoldRun(t, room(n), anyWords(&from, n), hands, from.Schedule(from.Below(100)), from.Below(250))
		if x.Ended {
			ended++
		}
		for _, told := range slices.Concat(a...) {
			if told.OK {
				ok++
			} else {
				not++
			}
		}
	}
	if ended < 500 || ended > 5500 || ok < 1000 || not < 1000 {
		t.Error("too few or too many runs have ended, or too few have told one of both:", ended, ok, not)
	}
}

// most in the middle of a task: what it has done so far stands in the words, and no answer is told.
func TestP10_1_MostInTheMiddle(t *testing.T) {
	hands := [][]api.Job{{write(5), write(6)}, nil, {}}
	for most, want := range [][]uint64{{4, 1, 2}, {4, 1, 2}, {5, 1, 2}, {5, 5, 2}, {5, 5, 5}, {6, 5, 5}, {6, 5, 5}, {7, 5, 5}, {7, 6, 5}, {7, 6, 6}, {8, 6, 6}, {8, 6, 6}} {
		told := []api.Answer{trial.Told(6), trial.Told(8)}[:min(2, most/5)]
		x, a := seqs.HoldRun(t, room(2), []uint64{4, 1, 2}, hands, []int{4}, most)
		if len(x.Steps) != min(most, 10) || x.Ended != (most >= 10) || !slices.Equal(x.Words, want) || !trial.SameAnswers(a, [][]api.Answer{told, nil, nil}) {
			t.Error(most, x, a)
		}
	}
	for most := range 12 {
		x, a := seqs.HoldRun(t, room(3), []uint64{4, 1, 1, 2}, [][]api.Job{nil, {read, read}}, nil, most)
		told := []api.Answer{torn(1), torn(1)}[:min(2, most/5)]
		if len(x.Steps) != min(most, 10) || x.Ended != (most >= 10) || !slices.Equal(x.Words, []uint64{4, 1, 1, 2}) || !trial.SameAnswers(a, [][]api.Answer{nil, told}) {
			t.Error(most, x, a)
		}
	}
	from := trial.Source(3)
	for most := range 100 {
		holdUntorn(t, 3, [][]api.Job{writes(4, 5, 4), nil, reads(3), reads(2)}, from.Schedule(60), most)
	}
}

// Schedules that are empty, shorter than the run, just as long, and longer.
func TestP10_1_Schedules(t *testing.T) {
	from := trial.Source(4)
	long := from.Schedule(200)
	for n := range len(long) {
		holdWhole(t, 3, [][]api.Job{writes(4, 5, 4), nil, reads(3), {}, reads(2)}, long[:n])
	}
}

// At the limits: 8 hands of the greatest room with 256 jobs each, a schedule and most of 65536.
func TestP10_1_AtTheLimits(t *testing.T) {
	from := trial.Source(5)
	var values []uint64
	for k := range api.MaxJobs {
		values = append(values, uint64(k+1))
	}
	hands := append([][]api.Job{writes(values...)}, slices.Repeat([][]api.Job{reads(api.MaxJobs)}, api.MaxHands-1)...)
	for _, schedule := range [][]int{from.Schedule(api.MaxSteps), make([]int, api.MaxSteps)} {
		x, a := holdUntorn(t, api.MaxRoom, hands, schedule, api.MaxSteps)
		if x.Ended || len(x.Steps) != api.MaxSteps || len(a[0]) < 100 {
			t.Error(x.Ended, len(x.Steps), len(a[0]))
		}
	}
	holdWhole(t, 1, hands, from.Schedule(api.MaxSteps))
	holdWhole(t, api.MaxRoom, hands[:2], from.Schedule(api.MaxSteps))
}
