package store_test

import (
	"math"
	"slices"
	"testing"

	"midden/api"
	"midden/shade"
	"midden/shape"
	"midden/store"
	"midden/trial"
	"midden/turn"
)

// holdOne fails, if a job of this hand alone doesn't give just these steps and these words.
func holdOne(t *testing.T, sh api.Shape, hand int, j api.Job, words []uint64, steps []api.Step, after []uint64) {
	t.Helper()
	hands := make([][]api.Job, hand+1)
	answers := make([][]api.Answer, hand+1)
	hands[hand], answers[hand] = []api.Job{j}, []api.Answer{told}
	stores.HoldSteps(t, sh, words, hands, nil, steps, answers, after)
	play(t, sh, words, hands, nil, 100)
}

func TestP18_1_Examples(t *testing.T) {
	words := puts(memory(0, cell{1, 7}, cell{1, 7}, cell{1, 7}), 10, 1, 11, 0, 17, 2, 18, 0)
	holdOne(t, three, 0, intoRoot(0, 3, bare), words, []api.Step{trial.Store(0, 10, 1, 3)}, with(words, 10, 3))
	holdOne(t, three, 0, intoSlot(1, 0, 3, bare), words, []api.Step{trial.Store(0, 17, 2, 3)}, with(words, 17, 3))
	holdOne(t, three, 0, intoRoot(1, 0, barOne), words, []api.Step{trial.Load(0, 11, 0), trial.Store(0, 11, 0, 0)}, words)
	holdOne(t, three, 0, intoSlot(1, 1, 0, barOne), words, []api.Step{trial.Load(0, 18, 0), trial.Store(0, 18, 0, 0)}, words)
	holdOne(t, three, 0, intoRoot(0, 0, barOne), words, []api.Step{
		trial.Load(0, 10, 1),
		trial.Load(0, 14, 1), trial.CAS(0, 14, 1, 3), trial.Load(0, 2, 0), trial.Store(0, 15, 7, 0), trial.CAS(0, 2, 0, tagged(1, 1)),
		trial.Store(0, 10, 1, 0),
	}, puts(words, 10, 0, 14, 3, 15, 0, 2, tagged(1, 1)))
	if store.IntoRoot != 1 || store.IntoSlot != 2 {
		t.Error("the kinds", store.IntoRoot, store.IntoSlot)
	}
}

// Both handles are shaded, what stood there first; then comes the store, and not ahead of that.
func TestP18_1_TheLongestWay(t *testing.T) {
	words := puts(memory(tagged(3, half-2), cell{4*half + 1, 7}, cell{9*half + 1, 8}, cell{3, 0}), 22, tagged(1, 4))
	after := puts(words, 14, 4*half+3, 15, 3, 19, 9*half+3, 20, 1, 2, 2, 22, tagged(2, 9))
	holdOne(t, three, 1, intoSlot(2, 0, tagged(2, 9), barOne), words, []api.Step{
		trial.Load(1, 22, tagged(1, 4)),
		trial.Load(1, 14, 4*half+1), trial.CAS(1, 14, 4*half+1, 4*half+3),
		trial.Load(1, 2, tagged(3, half-2)), trial.Store(1, 15, 7, 3), trial.CAS(1, 2, tagged(3, half-2), tagged(1, half-1)),
		trial.Load(1, 19, 9*half+1), trial.CAS(1, 19, 9*half+1, 9*half+3),
		trial.Load(1, 2, tagged(1, half-1)), trial.Store(1, 20, 8, 1), trial.CAS(1, 2, tagged(1, half-1), 2),
		trial.Store(1, 22, tagged(1, 4), tagged(2, 9)),
	}, after)
	// Once more with the other colour: what was turned is turned again, and stands on the list twice.
	x, _ := play(t, three, after, [][]api.Job{{intoSlot(2, 0, tagged(1, 4), barZero)}}, nil, 100)
	if len(x.Steps) != 12 || x.Words[14] != 4*half+1 || x.Words[19] != 9*half+1 || x.Words[22] != tagged(1, 4) || x.Words[2] != tagged(1, 2) {
		t.Error(x)
	}
}

// Each way through the states: what stood there and what is stored may be none, a white object's, the same white object's twice,
// one's that has the colour, one's of another generation or out of use, one's that isn't there, or a generation alone.
func TestP18_1_EachWay(t *testing.T) {
	objects := memory(tagged(3, 5), cell{4*half + 1, 7}, cell{9*half + 0xffff00fd, 8}, cell{3, 0})
	handles := []uint64{0, tagged(1, 4), tagged(2, 9), tagged(3, 0), tagged(1, 3), tagged(3, half-1), tagged(4, 0), math.MaxUint64, 5 * half}
	ways := map[int]int{}
	hold := func(hand int, j api.Job, words []uint64) {
		t.Helper()
		at := placeOf(three, hand, j)
		old := words[at]
		steps, is := []api.Step{trial.Load(hand, at, old)}, words
		for _, h := range []uint64{old, j.H} {
			if h != 0 {
				marked, behind := stepsOfMark(is, hand, h)
				steps, is = append(steps, marked...), behind
			}
		}
		steps = append(steps, trial.Store(hand, at, old, j.H))
		j.C = barOne
		holdOne(t, three, hand, j, words, steps, with(is, at, j.H))
		j.C = bare
		holdOne(t, three, hand, j, words, []api.Step{trial.Store(hand, at, old, j.H)}, with(words, at, j.H))
		ways[len(steps)]++
	}
	for _, used := range []uint64{objects[24], 0, 2, 0xfffffffe} { // object 3 has the colour, or is out of use
		for _, old := range handles {
			for _, h := range handles {
				for hand := range 2 {
					for root := range 2 {
						j := intoRoot(root, h, bare)
						hold(hand, j, puts(objects, 24, used, uint64(placeOf(three, hand, j)), old))
					}
					for number := 1; number <= 3; number++ {
						j := intoSlot(number, number%2, h, bare)
						hold(hand, j, puts(objects, 24, used, uint64(placeOf(three, hand, j)), old))
					}
				}
			}
		}
	}
	for _, n := range []int{2, 3, 4, 7, 8, 12} {
		if ways[n] == 0 {
			t.Error("no way of so many steps:", n, ways)
		}
	}
}

// Without the barrier nothing is looked at, whatever is stored; the answer is the same.
func TestP18_1_WithoutTheBarrier(t *testing.T) {
	words := puts(memory(tagged(3, 5), cell{1, 7}, cell{3, 8}, cell{0, 0}), 13, 1, 28, 2)
	for _, h := range append(trial.Values(), tagged(1, 0), tagged(2, 1), 1234567) {
		holdOne(t, three, 1, intoRoot(1, h, bare), words, []api.Step{trial.Store(1, 13, 1, h)}, with(words, 13, h))
		holdOne(t, three, 7, intoSlot(3, 1, h, bare), words, []api.Step{trial.Store(7, 28, 2, h)}, with(words, 28, h))
		for _, colour := range append(trial.Ends(), 0, 1) {
			steps, a, after := trial.Drive(t, store.Root(three, 1, 1, h, false, colour), words, nil)
			if !slices.Equal(steps, []api.Step{trial.Store(1, 13, 1, h)}) || a != told || !slices.Equal(after, with(words, 13, h)) {
				t.Error(h, colour, steps, a)
			}
			steps, a, after = trial.Drive(t, store.Slot(three, -5, 3, 1, h, false, colour), words, nil)
			if !slices.Equal(steps, []api.Step{trial.Store(-5, 28, 2, h)}) || a != told || !slices.Equal(after, with(words, 28, h)) {
				t.Error(h, colour, steps, a)
			}
		}
	}
}

// Each root and each slot of each shape is a word of its own.
func TestP18_1_EachPlace(t *testing.T) {
	for _, sh := range trial.RightShapes() {
		words := trial.Memory(sh, api.Grey, 0)
		seen := map[int]int{}
		hold := func(hand int, j api.Job) {
			t.Helper()
			at := placeOf(sh, hand, j)
			if name, _ := shape.Name(sh, at); name[:4] != "root" && name[:4] != "slot" {
				t.Fatal(sh, hand, j, name)
			}
			seen[at]++
			old := words[at]
			holdOne(t, sh, hand, j, words, []api.Step{trial.Store(hand, at, old, j.H)}, with(words, at, j.H))
			j.C = barZero
			holdOne(t, sh, hand, j, words, []api.Step{
				trial.Load(hand, at, old), trial.Load(hand, -1, 0), trial.Load(hand, -1, 0), trial.Store(hand, at, old, j.H),
			}, with(words, at, j.H))
		}
		for hand := range sh.Hands {
			for root := range sh.Roots {
				hold(hand, intoRoot(root, 5*half, bare))
			}
		}
		for number := 1; number <= sh.Objects; number++ {
			for slot := range sh.Slots {
				hold(number%api.MaxHands, intoSlot(number, slot, 6*half, bare))
			}
		}
		if len(seen) != sh.Hands*sh.Roots+sh.Objects*sh.Slots {
			t.Error(sh, len(seen))
		}
	}
}

// holdNoWord: a task whose word isn't there stores nothing; with the barrier it loads a 0, and shades what it would store.
func holdNoWord(t *testing.T, name string, make func(h uint64, bar bool) turn.Task, hand int) {
	t.Helper()
	words := puts(memory(tagged(3, 5), cell{4*half + 1, 7}, cell{1, 8}, cell{3, 0}), 10, 2, 17, 2)
	load, put := trial.Load(hand, -1, 0), trial.Store(hand, -1, 0, 0)
	marked, behind := stepsOfMark(words, hand, tagged(1, 4))
	for _, c := range []struct {
		h     uint64
		bar   bool
		steps []api.Step
		after []uint64
	}{
		{0, false, []api.Step{put}, words},
		{tagged(1, 4), false, []api.Step{put}, words},
		{0, true, []api.Step{load, put}, words},
		{tagged(4, 4), true, []api.Step{load, load, put}, words},
		{tagged(1, 4), true, slices.Concat([]api.Step{load}, marked, []api.Step{put}), behind},
	} {
		steps, a, after := trial.Drive(t, make(c.h, c.bar), words, nil)
		if !slices.Equal(steps, c.steps) || a != told || !slices.Equal(after, c.after) {
			t.Errorf("%s: %x, %v: %v %v %x; want %v %x", name, c.h, c.bar, steps, a, after, c.steps, c.after)
		}
	}
}

func TestP18_1_NoSuchWord(t *testing.T) {
	far := append(trial.Ends(), -3, 1<<32, 1<<32+1, 1<<62)
	for _, n := range append(far, 2, 3, 7, 8) {
		holdNoWord(t, "a hand", func(h uint64, bar bool) turn.Task { return store.Root(three, n, 0, h, bar, 1) }, n)
		holdNoWord(t, "a hand and a root", func(h uint64, bar bool) turn.Task { return store.Root(three, n, n, h, bar, 1) }, n)
		for hand := range 2 {
			holdNoWord(t, "a root", func(h uint64, bar bool) turn.Task { return store.Root(three, hand, n, h, bar, 1) }, hand)
			holdNoWord(t, "a slot", func(h uint64, bar bool) turn.Task { return store.Slot(three, hand, 1, n, h, bar, 1) }, hand)
			holdNoWord(t, "another object's slot", func(h uint64, bar bool) turn.Task { return store.Slot(three, hand, 3, n, h, bar, 1) }, hand)
		}
	}
	for _, n := range append(far, 0, 4, 5, 64, 65, half-1) {
		for _, hand := range append(trial.Ends(), 0, 1, 2, 9) {
			holdNoWord(t, "an object", func(h uint64, bar bool) turn.Task { return store.Slot(three, hand, n, 0, h, bar, 1) }, hand)
			holdNoWord(t, "an object and a slot", func(h uint64, bar bool) turn.Task { return store.Slot(three, hand, n, n, h, bar, 1) }, hand)
		}
	}
	// A shape without slots has none of any object.
	sh := api.Shape{Objects: 3, Hands: 1, Roots: 1}
	words := trial.Memory(sh, api.Grey, 0)
	steps, a, after := trial.Drive(t, store.Slot(sh, 0, 1, 0, 0, true, 1), words, nil)
	if !slices.Equal(steps, []api.Step{trial.Load(0, -1, 0), trial.Store(0, -1, 0, 0)}) || a != told || !slices.Equal(after, words) {
		t.Error(steps, a)
	}
}

// A shape that is none has no words: what is stored is stored nowhere, and nothing is shaded.
func TestP18_1_NoShape(t *testing.T) {
	words := puts(memory(0, cell{1, 0}, cell{1, 0}, cell{1, 0}), 10, 1, 17, 1)
	for i, sh := range trial.WrongShapes() {
		hand := i%11 - 2
		for _, h := range []uint64{0, 1, math.MaxUint64} {
			for _, k := range []turn.Task{store.Root(sh, hand, 0, h, true, i), store.Slot(sh, hand, 1, 0, h, true, i)} {
				steps, a, after := trial.Drive(t, k, words, nil)
				if steps[0] != trial.Load(hand, -1, 0) || steps[len(steps)-1] != trial.Store(hand, -1, 0, 0) || a != told || !slices.Equal(after, words) {
					t.Fatal(sh, h, steps, a)
				}
			}
			for _, k := range []turn.Task{store.Root(sh, hand, 0, h, false, i), store.Slot(sh, hand, 1, 0, h, false, i)} {
				steps, a, after := trial.Drive(t, k, words, nil)
				if !slices.Equal(steps, []api.Step{trial.Store(hand, -1, 0, 0)}) || a != told || !slices.Equal(after, words) {
					t.Fatal(sh, h, steps, a)
				}
			}
		}
	}
}

// Of a colour the last bit counts, in Root and Slot; a job's is told by its C.
func TestP18_1_Colours(t *testing.T) {
	for _, colour := range append(trial.Ends(), 0, 1, 2, 3, 4, 5, -3, -4, 1<<32, 1<<32+1, 255, 256) {
		for own := range uint64(2) {
			words := puts(memory(0, cell{2*own + 1, 0}, cell{2*own + 1, 0}, cell{}), 11, 1, 22, 1)
			want, heads := 4, [2]uint64{2*own + 1, 2*own + 1}
			if isOdd := colour%2 != 0; isOdd != (own == 1) {
				want, heads = 12, [2]uint64{3 - 2*own, 3 - 2*own}
			}
			for _, k := range []turn.Task{store.Root(three, 0, 1, 2, true, colour), store.Slot(three, 0, 2, 0, 2, true, colour)} {
				if steps, a, after := trial.Drive(t, k, words, nil); len(steps) != want || a != told || [2]uint64{after[14], after[19]} != heads {
					t.Error(colour, own, steps, a)
				}
			}
			bar := 1 + colour&1
			for _, j := range []api.Job{intoRoot(1, 2, bar), intoSlot(2, 0, 2, bar)} {
				if x, _ := play(t, three, words, [][]api.Job{{j}}, nil, 100); len(x.Steps) != want || [2]uint64{x.Words[14], x.Words[19]} != heads {
					t.Error(colour, own, x)
				}
			}
		}
	}
}

// The word changes between its load and the store: it is stored over all the same, and what was put there amid isn't shaded.
func TestP18_1_WordChangedAmid(t *testing.T) {
	const hand = 1
	words := puts(memory(0, cell{1, 7}, cell{1, 8}, cell{1, 9}), 12, 1, 17, 1)
	for _, c := range []struct {
		at uint64
		k  func() turn.Task
	}{
		{12, func() turn.Task { return store.Root(three, hand, 0, 2, true, 1) }},
		{17, func() turn.Task { return store.Slot(three, hand, 1, 0, 2, true, 1) }},
	} {
		for ahead := range 12 {
			steps, a, after := trial.Drive(t, c.k(), words, map[int]trial.Put{ahead: {c.at, 3}})
			had, head := uint64(1), uint64(14)
			if ahead == 0 {
				had, head = 3, 24
			}
			if len(steps) != 12 || steps[0] != trial.Load(hand, int(c.at), had) || steps[11] != trial.Store(hand, int(c.at), 3, 2) || a != told {
				t.Error(c.at, ahead, steps, a)
			}
			if want := puts(words, c.at, 2, head, 3, head+1, 0, 19, 3, 20, had, 2, tagged(2, 2)); !slices.Equal(after, want) {
				t.Errorf("%d, %d: %x; want %x", c.at, ahead, after, want)
			}
		}
	}
	// It becomes 0, or comes to be what is stored.
	for _, is := range []uint64{0, 2} {
		steps, _, after := trial.Drive(t, store.Root(three, hand, 0, 2, true, 1), words, map[int]trial.Put{1: {12, is}})
		if len(steps) != 12 || steps[11] != trial.Store(hand, 12, is, 2) || after[14] != 3 || after[19] != 3 {
			t.Error(is, steps)
		}
	}
}

// A CAS of an inner Mark that isn't done: the Mark goes on by its own table, and so the store comes later.
func TestP18_1_CASLostAmid(t *testing.T) {
	const hand = 6
	words := puts(memory(tagged(3, 1), cell{4*half + 1, 7}, cell{1, 8}, cell{3, 0}), 17, tagged(1, 4))
	// Another one turns the head of what stood there, ahead of the CAS: it isn't white any more.
	steps, a, after := trial.Drive(t, store.Slot(three, hand, 1, 0, 0, true, 1), words, map[int]trial.Put{2: {14, 4*half + 3}})
	if !slices.Equal(steps, []api.Step{
		trial.Load(hand, 17, tagged(1, 4)), trial.Load(hand, 14, 4*half+1), trial.Lost(hand, 14, 4*half+3), trial.Load(hand, 14, 4*half+3),
		trial.Store(hand, 17, tagged(1, 4), 0),
	}) || a != told || after[2] != tagged(3, 1) {
		t.Error("a head", steps, a)
	}
	// Another one puts an object on the list, ahead of the CAS of Grey, for both handles.
	steps, a, after = trial.Drive(t, store.Slot(three, hand, 1, 0, 2, true, 1), words, map[int]trial.Put{5: {2, tagged(3, 2)}, 13: {2, tagged(1, 9)}})
	if !slices.Equal(steps, []api.Step{
		trial.Load(hand, 17, tagged(1, 4)),
		trial.Load(hand, 14, 4*half+1), trial.CAS(hand, 14, 4*half+1, 4*half+3),
		trial.Load(hand, 2, tagged(3, 1)), trial.Store(hand, 15, 7, 3), trial.Lost(hand, 2, tagged(3, 2)),
		trial.Load(hand, 2, tagged(3, 2)), trial.Store(hand, 15, 3, 3), trial.CAS(hand, 2, tagged(3, 2), tagged(1, 3)),
		trial.Load(hand, 19, 1), trial.CAS(hand, 19, 1, 3),
		trial.Load(hand, 2, tagged(1, 3)), trial.Store(hand, 20, 8, 1), trial.Lost(hand, 2, tagged(1, 9)),
		trial.Load(hand, 2, tagged(1, 9)), trial.Store(hand, 20, 1, 1), trial.CAS(hand, 2, tagged(1, 9), tagged(2, 10)),
		trial.Store(hand, 17, tagged(1, 4), 2),
	}) || a != told || after[2] != tagged(2, 10) {
		t.Error("Grey", steps, a)
	}
	// The object is given back between the word's load and the head's: there is nothing to shade.
	steps, a, after = trial.Drive(t, store.Slot(three, hand, 1, 0, 0, true, 1), words, map[int]trial.Put{1: {14, 5 * half}})
	if len(steps) != 3 || a != told || after[14] != 5*half || after[17] != 0 {
		t.Error("given back", steps, a)
	}
}

// Two hands at one slot: both have loaded what stood there, and one of them shades it.
func TestP18_1_TwoAtOneSlot(t *testing.T) {
	words := puts(memory(0, cell{1, 7}, cell{1, 8}, cell{1, 9}), 17, 2)
	hands := [][]api.Job{{intoSlot(1, 0, 3, barOne)}, {intoSlot(1, 0, 0, barOne)}}
	steps := []api.Step{
		trial.Load(0, 17, 2), trial.Load(1, 17, 2), trial.Load(1, 19, 1), trial.Load(0, 19, 1), trial.CAS(0, 19, 1, 3), trial.Lost(1, 19, 3),
		trial.Load(1, 19, 3), trial.Load(0, 2, 0), trial.Store(1, 17, 2, 0), trial.Store(0, 20, 8, 0), trial.CAS(0, 2, 0, tagged(2, 1)),
		trial.Load(0, 24, 1), trial.CAS(0, 24, 1, 3), trial.Load(0, 2, tagged(2, 1)), trial.Store(0, 25, 9, 2), trial.CAS(0, 2, tagged(2, 1), tagged(3, 2)),
		trial.Store(0, 17, 0, 3),
	}
	stores.HoldSteps(t, three, words, hands, []int{0, 1, 1, 0, 0, 1, 1, 0, 1}, steps,
		[][]api.Answer{{told}, {told}}, puts(words, 17, 3, 19, 3, 20, 0, 24, 3, 25, 2, 2, tagged(3, 2)))
}

// What the layer below does with what was put on the list: it is pulled off it, and a store puts on it what is white then.
func TestP18_1_WithTheLayerBelow(t *testing.T) {
	words := puts(memory(0, cell{1, 7}, cell{1, 8}, cell{1, 9}), 10, 0, 17, 2)
	x, _ := play(t, three, words, [][]api.Job{{intoRoot(0, 1, barOne), intoSlot(1, 0, 3, barOne)}}, nil, 100)
	y, a, e := shade.Play(three, x.Words, [][]api.Job{slices.Repeat([]api.Job{{Kind: shade.Next}}, 4)}, nil, 100)
	if want := []api.Answer{trial.Told(3), trial.Told(2), trial.Told(1), {}}; e != api.OK || !slices.Equal(a[0], want) {
		t.Error(a, e)
	}
	if z, _ := play(t, three, y.Words, [][]api.Job{{intoSlot(1, 0, 2, barOne)}}, nil, 100); len(z.Steps) != 4 || z.Words[2] != y.Words[2] {
		t.Error("all have the colour already", z)
	}
}

// A task alone, by hands of any number, on memories by hand: shorter than the shape's, longer, and none at all.
func TestP18_1_TaskAlone(t *testing.T) {
	from := trial.Source(1)
	for _, hand := range append(trial.Ends(), 0, 1, 2, 7, 8, 9, 1<<32) {
		for range 60 {
			sh := from.SmallShape()
			long := append(anyWords(&from, sh), from.Words(sh)...)
			words := long[:from.Below(len(long)+1)]
			if from.Below(3) == 0 {
				words = long[:trial.HeadAt(sh, sh.Objects)+from.Below(3+sh.Slots)] // some of the last object's words are none
			}
			for _, j := range slices.Concat(anyJobs(&from, sh, long, append(trial.Ends(), 0, 1, 2, 3, 4), 1, 5)...) {
				stores.HoldTask(t, sh, hand, j, words, 40)
				stores.HoldTask(t, sh, hand, j, nil, 40)
				j.A, j.B = []int{j.A, from.End(), 0, sh.Objects + 1}[from.Below(4)], []int{j.B, from.End(), sh.Slots}[from.Below(3)]
				stores.HoldTask(t, sh, hand, j, words, 40)
			}
		}
	}
}

// The same with acts of others amid it, at the words that it looks at and at any others.
func TestP18_1_TaskAmidOthers(t *testing.T) {
	from := trial.Source(2)
	for range 15000 {
		sh := from.SmallShape()
		words := anyWords(&from, sh)
		jobs := slices.Concat(anyJobs(&from, sh, words, allBars, 1, 2)...)
		if len(jobs) == 0 {
			continue
		}
		number, own := 1+from.Below(sh.Objects), placeOf(sh, 0, jobs[0])
		stores.HoldTaskAmid(t, sh, 0, jobs[0], words, 60, func(i int) []api.Step {
			if i > 30 || from.Below(3) > 0 {
				return nil
			}
			at := []int{api.Grey, own, trial.HeadAt(sh, number), trial.HeadAt(sh, trial.Number(jobs[0].H)), trial.LinkAt(sh, number), from.Below(len(words))}[from.Below(6)]
			put := []uint64{half, 1, 2, 256, from.One(sh)}[from.Below(5)]
			return []api.Step{{Act: []int{api.Add, api.Add, api.Store}[from.Below(3)], At: at, Put: put}}
		})
	}
}

// Jobs of several hands in every order of their steps, from words whose grey list is one and from words whose isn't.
func TestP18_1_EveryOrder(t *testing.T) {
	for _, hands := range [][][]api.Job{
		{{intoSlot(1, 0, 2, barOne)}, {intoSlot(1, 0, 3, barOne)}},
		{{intoSlot(1, 0, 2, barOne)}, {intoSlot(1, 0, 3, barZero)}},
		{{intoSlot(1, 0, 2, bare)}, {intoSlot(1, 0, 0, barOne)}, {intoSlot(1, 0, 3, bare)}},
		{{intoRoot(0, 1, barOne)}, {intoRoot(0, 1, barOne)}},
		{{intoRoot(0, 1, barOne), intoRoot(0, 0, bare)}, {intoSlot(1, 1, 3, barOne)}},
		{{intoRoot(1, 0, barZero)}, {intoSlot(2, 0, 9, barOne)}, {intoSlot(1, 0, 0, barOne)}},
	} {
		for _, words := range [][]uint64{
			puts(memory(0, cell{1, 0}, cell{1, 0}, cell{1, 0}), 10, 3, 12, 3, 17, 2),
			puts(memory(tagged(3, half-1), cell{1, 0}, cell{3, 0}, cell{3, 0}), 10, 1, 12, 0, 17, 1),
			puts(memory(tagged(1, 5), cell{1, 1}, cell{half + 1, 2}, cell{1, 9}), 10, 2, 12, 9, 17, 0), // 1 shows itself
		} {
			everyOrder(t, three, words, hands, func(schedule []int) {
				play(t, three, words, hands, schedule, len(schedule))
			})
		}
	}
}

// All schedules of the first steps; behind them the hands take turns.
func TestP18_1_EverySchedule(t *testing.T) {
	words := puts(memory(tagged(3, half-2), cell{1, 9}, cell{1, 9}, cell{3, 0}), 10, 1, 12, 2, 17, 2)
	for _, hands := range [][][]api.Job{
		{{intoSlot(1, 0, 1, barOne), intoRoot(0, 0, barOne)}, {intoSlot(1, 0, 1, barOne)}},
		{{intoRoot(0, 2, barOne), intoRoot(0, 3, barZero)}, {intoRoot(0, 1, bare), intoSlot(1, 0, 0, barOne)}},
	} {
		for schedule := range trial.Lists(2, 12) {
			play(t, three, words, hands, schedule, 100)
		}
	}
	for schedule := range trial.Lists(3, 8) {
		play(t, three, words, [][]api.Job{{intoSlot(1, 0, 3, barOne)}, {intoSlot(1, 0, 1, barZero)}, {intoSlot(1, 0, 2, bare), intoSlot(1, 0, 0, barOne)}}, schedule, 100)
	}
}
