package trial_test

import (
	"slices"
	"testing"

	"midden/api"
	"midden/shape"
	"midden/trial"
	"midden/turn"
)

// Where a heap's words stand is what shape tells; and what isn't there stands at -1.
func TestPlaces(t *testing.T) {
	for _, sh := range trial.RightShapes() {
		if size, e := shape.Size(sh); e != api.OK || trial.SizeOf(sh) != size {
			t.Error(sh, trial.SizeOf(sh), size)
		}
		for hand := range sh.Hands {
			if at, e := shape.Ack(sh, hand); e != api.OK || trial.AckAt(sh, hand) != at {
				t.Error(sh, hand, trial.AckAt(sh, hand), at)
			}
			for root := range sh.Roots {
				if at, e := shape.Root(sh, hand, root); e != api.OK || trial.RootAt(sh, hand, root) != at {
					t.Error(sh, hand, root, trial.RootAt(sh, hand, root), at)
				}
			}
			for _, n := range append(trial.Ends(), 1<<32) {
				if trial.RootAt(sh, hand, n) != -1 || trial.RootAt(sh, hand, sh.Roots) != -1 || trial.RootAt(sh, n, 0) != -1 || trial.RootAt(sh, sh.Hands, 0) != -1 {
					t.Error(sh, hand, n)
				}
			}
		}
		for _, hand := range append(trial.Ends(), sh.Hands, 1<<32) {
			if trial.AckAt(sh, hand) != -1 {
				t.Error(sh, hand, trial.AckAt(sh, hand))
			}
		}
		for weak := range sh.Weaks {
			if at, e := shape.Weak(sh, weak); e != api.OK || trial.WeakAt(sh, weak) != at {
				t.Error(sh, weak, trial.WeakAt(sh, weak), at)
			}
		}
		for _, weak := range append(trial.Ends(), sh.Weaks, 1<<32) {
			if trial.WeakAt(sh, weak) != -1 {
				t.Error(sh, weak, trial.WeakAt(sh, weak))
			}
		}
		for number := 1; number <= sh.Objects; number++ {
			if at, e := shape.Object(sh, number); e != api.OK || trial.HeadAt(sh, number) != at || trial.LinkAt(sh, number) != at+1 || trial.NextAt(sh, number) != at+2 {
				t.Error(sh, number, trial.HeadAt(sh, number), trial.LinkAt(sh, number), trial.NextAt(sh, number), at)
			}
			for slot := range sh.Slots {
				if at, e := shape.Slot(sh, number, slot); e != api.OK || trial.SlotAt(sh, number, slot) != at {
					t.Error(sh, number, slot, trial.SlotAt(sh, number, slot), at)
				}
			}
			for _, slot := range append(trial.Ends(), sh.Slots) {
				if trial.SlotAt(sh, number, slot) != -1 {
					t.Error(sh, number, slot, trial.SlotAt(sh, number, slot))
				}
			}
		}
		for _, number := range append(trial.Ends(), 0, sh.Objects+1, 1<<32, 1<<32+1) {
			if trial.HeadAt(sh, number) != -1 || trial.LinkAt(sh, number) != -1 || trial.NextAt(sh, number) != -1 || trial.SlotAt(sh, number, 0) != -1 {
				t.Error(sh, number, trial.HeadAt(sh, number), trial.LinkAt(sh, number), trial.NextAt(sh, number))
			}
		}
	}
	for _, sh := range trial.WrongShapes() {
		if trial.AckAt(sh, 0) != -1 || trial.RootAt(sh, 0, 0) != -1 || trial.WeakAt(sh, 0) != -1 || trial.HeadAt(sh, 1) != -1 || trial.LinkAt(sh, 1) != -1 || trial.NextAt(sh, 1) != -1 || trial.SlotAt(sh, 1, 0) != -1 {
			t.Error("no shape:", sh)
		}
	}
}

// Any words: as many as there must be, and among them all that shows objects and all that doesn't.
func TestWords(t *testing.T) {
	from := trial.Source(5)
	near, far, upper, none := 0, 0, 0, 0
	for range 50 {
		sh := from.Shape()
		words := from.Words(sh)
		if len(words) != trial.SizeOf(sh) {
			t.Fatal(sh, len(words))
		}
		for _, w := range words {
			switch number := trial.Number(w); {
			case number == 0:
				none++
			case number <= sh.Objects:
				near++
			default:
				far++
			}
			if trial.Upper(w) > 0 {
				upper++
			}
		}
	}
	if min(near, far, upper, none) < 100 {
		t.Error(near, far, upper, none)
	}
}

// Words that are used more: most objects are in use, most handles at the places are good, and Grey shows an object most often.
func TestUsedWords(t *testing.T) {
	from := trial.Source(8)
	var objects, used, places, good, lists, grey int
	for range 200 {
		sh := from.Shape()
		shown := []int{trial.RootAt(sh, 0, 0), trial.RootAt(sh, sh.Hands-1, sh.Roots-1)}
		words := from.UsedWords(sh, shown)
		v := trial.LookAt(t, sh, words)
		for i, o := range trial.ObjectsIn(sh, words) {
			if o.Gen != v.Objects[i].Gen || len(o.Slots) > 0 || o.Used {
				t.Fatal(i, o, v.Objects[i])
			}
			objects++
			if v.Objects[i].Used {
				used++
			}
		}
		for _, at := range shown {
			places++
			if trial.Shown(v, words[at]) > 0 {
				good++
			}
		}
		lists++
		if trial.HeadAt(sh, trial.Number(words[api.Grey])) >= 0 {
			grey++
		}
	}
	if 3*used < 2*objects || used == objects || 4*good < places || good == places || 2*grey < lists || grey == lists {
		t.Error(objects, used, places, good, lists, grey)
	}
}

// What a Mark does alone is what its table makes of the same words.
func TestShading(t *testing.T) {
	from := trial.Source(9)
	tables := trial.Layer{Table: func(sh api.Shape, _ int, j api.Job, act trial.Act) api.Answer {
		return trial.Marking(sh, j.H, j.C, act)
	}}
	lengths := map[int]int{}
	for range 500 {
		sh := from.Shape()
		words := from.UsedWords(sh, nil)
		held := slices.Clone(words)
		h, colour := from.Handle(trial.ObjectsIn(sh, words)), from.End()
		x, _, _ := tables.Model(sh, words, [][]api.Job{nil, {{H: h, C: colour}}}, nil, 9)
		steps, after := trial.Shading(sh, words, 1, h, colour)
		if !slices.Equal(steps, x.Steps) || !slices.Equal(after, x.Words) || !slices.Equal(words, held) {
			t.Fatal(sh, words, h, colour, steps, after, x)
		}
		lengths[len(steps)]++
	}
	if len(lengths) != 2 || min(lengths[1], lengths[5]) < 50 {
		t.Error(lengths)
	}
}

// Words by hand: the same but for some, in memory of their own.
func TestPuts(t *testing.T) {
	words := []uint64{5, 6, 7}
	if got := trial.Puts(words, 2, 9, 0, 8, 2, 1); !slices.Equal(got, []uint64{8, 6, 1}) || !slices.Equal(words, []uint64{5, 6, 7}) {
		t.Error(got, words)
	}
	if got := trial.Puts(words); !slices.Equal(got, words) || &got[0] == &words[0] {
		t.Error(got)
	}
}

// Layer 16's tables, on its chapter's examples and on words whose upper halves are at their end.
func TestMarkingAndPulling(t *testing.T) {
	sh := api.Shape{Objects: 1, Hands: 1, Roots: 1}
	const half = 1 << 32
	tables := trial.Layer{Table: func(sh api.Shape, _ int, j api.Job, act trial.Act) api.Answer {
		if j.Kind == 1 {
			return trial.Marking(sh, j.H, j.C, act)
		}
		return trial.Pulling(sh, act)
	}}
	tables.Play = tables.Model
	words := []uint64{0, 0, 0, 0, 0, 0, 0, 0, 0, 0, 1, 0, 0}
	jobs := []api.Job{{Kind: 1, H: 1, C: 1}, {Kind: 1, H: 1, C: -1}, {}, {}, {Kind: 1, H: 7, C: 1}, {Kind: 1, C: 1}}
	after := slices.Clone(words)
	after[2], after[10] = 2*half, 3
	tables.HoldSteps(t, sh, words, [][]api.Job{jobs}, nil, []api.Step{
		trial.Load(0, 10, 1), trial.CAS(0, 10, 1, 3), trial.Load(0, 2, 0), trial.Store(0, 11, 0, 0), trial.CAS(0, 2, 0, half+1),
		trial.Load(0, 10, 3),
		trial.Load(0, 2, half+1), trial.Load(0, 11, 0), trial.CAS(0, 2, half+1, 2*half),
		trial.Load(0, 2, 2*half),
		trial.Load(0, -1, 0), trial.Load(0, -1, 0),
	}, [][]api.Answer{{trial.Told(1), {}, trial.Told(1), {}, {}, {}}}, after)
	words[2], words[10], words[11] = (half-1)*half, (half-1)*half+3, 5*half
	after = slices.Clone(words)
	after[2], after[10], after[11] = half, (half-1)*half+1, 0
	tables.HoldSteps(t, sh, words, [][]api.Job{{{Kind: 1, H: (half-1)*half + 1, C: 0}, {}}}, nil, []api.Step{
		trial.Load(0, 10, words[10]), trial.CAS(0, 10, words[10], after[10]),
		trial.Load(0, 2, words[2]), trial.Store(0, 11, 5*half, 0), trial.CAS(0, 2, words[2], 1),
		trial.Load(0, 2, 1), trial.Load(0, 11, 0), trial.CAS(0, 2, 1, half),
	}, [][]api.Answer{{trial.Told(1), trial.Told(1)}}, after)
}

// Layer 17's tables, on its chapter's examples and on generations, tags and numbers at their end.
func TestMakingAndGiving(t *testing.T) {
	sh := api.Shape{Objects: 2, Slots: 1, Hands: 1, Roots: 1} // heads 10 and 14
	const half = 1 << 32
	tables := trial.Layer{Table: func(sh api.Shape, _ int, j api.Job, act trial.Act) api.Answer {
		if j.Kind == 1 {
			return trial.Making(sh, j.B == 1, j.C, act)
		}
		return trial.Giving(sh, j.A, act)
	}}
	tables.Play = tables.Model
	hold := func(words []uint64, steps []api.Step, jobs []api.Job, answers ...api.Answer) {
		t.Helper()
		after := slices.Clone(words)
		for _, s := range steps {
			if s.At >= 0 {
				after[s.At] = s.Put
			}
		}
		tables.HoldSteps(t, sh, words, [][]api.Job{jobs}, nil, steps, [][]api.Answer{answers}, after)
	}
	words, _ := shape.Fresh(sh)
	hold(words, []api.Step{
		trial.Load(0, 1, 1), trial.Load(0, 11, 2), trial.CAS(0, 1, 1, half+2), trial.Load(0, 10, 0), trial.Store(0, 10, 0, 1), trial.Add(0, 4, 0, 1),
		trial.Load(0, 1, half+2), trial.Load(0, 15, 0), trial.CAS(0, 1, half+2, 2*half), trial.Load(0, 14, 0), trial.Store(0, 14, 0, 7), trial.Add(0, 4, 1, 2),
		trial.Load(0, 1, 2*half),
		trial.Store(0, 13, 0, 0), trial.Load(0, 10, 1), trial.Store(0, 10, 1, half),
		trial.Load(0, 1, 2*half), trial.Store(0, 11, 2, 0), trial.CAS(0, 1, 2*half, 3*half+1), trial.Add(0, 5, 0, 1),
	}, []api.Job{{Kind: 1}, {Kind: 1, B: 1, C: -4}, {Kind: 1}, {A: 1}}, trial.Told(1), trial.Told(2), api.Answer{}, trial.Told(1))
	words = trial.Memory(sh, api.Free, trial.Tagged(2, half-1), trial.Cell{(half-1)*half + 9, 0}, trial.Cell{half - 1, trial.Tagged(9, 5)})
	hold(words, []api.Step{
		trial.Load(0, 1, words[1]), trial.Load(0, 15, words[15]), trial.CAS(0, 1, words[1], 9),
		trial.Load(0, 14, half-1), trial.Store(0, 14, half-1, 5), trial.Add(0, 4, 1004, 1005),
		trial.Load(0, 1, 9),
		trial.Store(0, 13, 1013, 0), trial.Load(0, 10, words[10]), trial.Store(0, 10, words[10], (half-1)*half), trial.Add(0, 5, 1005, 1006),
		trial.Load(0, -1, 0), trial.Store(0, -1, 0, 0), trial.Load(0, 1, 9), trial.Store(0, -1, 0, 0), trial.CAS(0, 1, 9, 2*half-3), trial.Add(0, 5, 1006, 1007),
	}, []api.Job{{Kind: 1, B: 1}, {Kind: 1}, {A: 1}, {A: -3}}, trial.Told(2), api.Answer{}, trial.Told(1), trial.Told(0))
}

// Layer 18's tables, on its chapter's examples and on words that aren't there.
func TestStoring(t *testing.T) {
	sh := api.Shape{Objects: 2, Slots: 1, Hands: 1, Roots: 1} // the root 9, heads 10 and 14, the slots 13 and 17
	const half = 1 << 32
	tables := trial.Layer{Table: func(sh api.Shape, _ int, j api.Job, act trial.Act) api.Answer {
		return trial.Storing(sh, j.A, j.H, j.B == 1, j.C, act)
	}}
	tables.Play = tables.Model
	words := trial.With(trial.With(trial.Memory(sh, api.Grey, 0, trial.Cell{1, 5}, trial.Cell{7*half + 1, 5}), 9, 1), 13, 0)
	two := trial.Tagged(2, 7)
	steps := []api.Step{
		trial.Store(0, 13, 0, 9),
		trial.Load(0, 9, 1), trial.Load(0, 10, 1), trial.CAS(0, 10, 1, 3), trial.Load(0, 2, 0), trial.Store(0, 11, 5, 0), trial.CAS(0, 2, 0, half+1), trial.Store(0, 9, 1, 0),
		trial.Load(0, 9, 0), trial.Store(0, 9, 0, 0),
		trial.Load(0, 9, 0), trial.Load(0, 14, 7*half+1), trial.CAS(0, 14, 7*half+1, 7*half+3), trial.Load(0, 2, half+1), trial.Store(0, 15, 5, 1), trial.CAS(0, 2, half+1, 2*half+2), trial.Store(0, 9, 0, two),
		trial.Load(0, 9, two), trial.Load(0, 14, 7*half+3), trial.Load(0, 10, 3), trial.Store(0, 9, two, 1),
		trial.Load(0, -1, 0), trial.Load(0, -1, 0), trial.Store(0, -1, 0, 0),
		trial.Store(0, -1, 0, 0),
	}
	after := slices.Clone(words)
	for _, s := range steps {
		if s.At >= 0 {
			after[s.At] = s.Put
		}
	}
	tables.HoldSteps(t, sh, words, [][]api.Job{{
		{A: 13, H: 9}, {A: 9, B: 1, C: 1}, {A: 9, B: 1, C: 1}, {A: 9, B: 1, C: -1, H: two}, {A: 9, B: 1, C: 1, H: 1}, {A: -1, B: 1, H: 3}, {A: -1, H: 3},
	}}, nil, steps, [][]api.Answer{slices.Repeat([]api.Answer{trial.Told(0)}, 7)}, after)
}

// Layer 19's tables, on its chapter's examples and on words that aren't there.
func TestSettingAndGetting(t *testing.T) {
	sh := api.Shape{Objects: 1, Hands: 1, Roots: 1, Weaks: 2} // the weak words 10 and 11, the head 12
	const half = 1 << 32
	tables := trial.Layer{Table: func(sh api.Shape, _ int, j api.Job, act trial.Act) api.Answer {
		if j.Kind == 1 {
			return trial.Setting(sh, j.B, j.H, act)
		}
		return trial.Getting(sh, j.B, j.C, j.A, act)
	}}
	tables.Play = tables.Model
	one := func(phase, colour int) api.Job { return api.Job{Kind: 2, C: phase, A: colour} }
	words := trial.Puts(trial.Memory(sh, api.Grey, 0, trial.Cell{1, 5}), 10, 1, 11, 0)
	told, again := trial.Told(1), api.Answer{Val: 1}
	for _, c := range []struct {
		job   api.Job
		steps []api.Step
		want  api.Answer
	}{
		{one(api.Idle, 1), []api.Step{trial.Load(0, 10, 1)}, told},
		{one(api.Sweep, 1), []api.Step{trial.Load(0, 10, 1)}, told},
		{one(-1, 1), []api.Step{trial.Load(0, 10, 1)}, told},
		{one(5, 1), []api.Step{trial.Load(0, 10, 1)}, told},
		{one(api.Mark, 1), []api.Step{
			trial.Load(0, 10, 1),
			trial.Load(0, 12, 1), trial.CAS(0, 12, 1, 3), trial.Load(0, 2, 0), trial.Store(0, 13, 5, 0), trial.CAS(0, 2, 0, half+1),
		}, told},
		{one(api.Arm, -2), []api.Step{trial.Load(0, 10, 1), trial.Load(0, 12, 1)}, told},
		{one(api.Close, -1), []api.Step{trial.Load(0, 10, 1), trial.Load(0, 12, 1)}, again},
		{one(api.Close, 4), []api.Step{trial.Load(0, 10, 1), trial.Load(0, 12, 1), trial.Load(0, 10, 1)}, told},
		{api.Job{Kind: 2, B: 1, C: api.Close}, []api.Step{trial.Load(0, 11, 0)}, trial.Told(0)},
		{api.Job{Kind: 2, B: 2, C: api.Mark}, []api.Step{trial.Load(0, -1, 0)}, trial.Told(0)},
		{api.Job{Kind: 1, B: 1, H: 9}, []api.Step{trial.Store(0, 11, 0, 9)}, trial.Told(9)},
		{api.Job{Kind: 1, B: 0, H: 0}, []api.Step{trial.Store(0, 10, 1, 0)}, trial.Told(0)},
		{api.Job{Kind: 1, B: -1, H: 9}, []api.Step{trial.Store(0, -1, 0, 0)}, trial.Told(9)},
	} {
		after := slices.Clone(words)
		for _, s := range c.steps {
			if s.At >= 0 {
				after[s.At] = s.Put
			}
		}
		tables.HoldSteps(t, sh, words, [][]api.Job{{c.job}}, nil, c.steps, [][]api.Answer{{c.want}}, after)
	}
	// Wiped between the two looks, or ahead of the one alone.
	hands := [][]api.Job{{one(api.Close, 0)}, {{Kind: 1}}}
	tables.HoldSteps(t, sh, words, hands, []int{0, 1, 0, 0}, []api.Step{
		trial.Load(0, 10, 1), trial.Store(1, 10, 1, 0), trial.Load(0, 12, 1), trial.Load(0, 10, 0),
	}, [][]api.Answer{{again}, {trial.Told(0)}}, trial.With(words, 10, 0))
	tables.HoldSteps(t, sh, words, hands, []int{1}, []api.Step{
		trial.Store(1, 10, 1, 0), trial.Load(0, 10, 0),
	}, [][]api.Answer{{trial.Told(0)}, {trial.Told(0)}}, trial.With(words, 10, 0))
}

func TestScanningAndResting(t *testing.T) {
	sh := api.Shape{Objects: 2, Slots: 1, Hands: 2, Roots: 1} // the roots 10 and 11, the heads 12 and 16
	tables := trial.Layer{Table: func(sh api.Shape, _ int, j api.Job, act trial.Act) api.Answer {
		if j.Kind == 1 {
			return trial.Scanning(sh, j.C, act)
		}
		return trial.Resting(sh, j.C, act)
	}}
	tables.Play = tables.Model
	tagged, load := trial.Tagged, trial.Load
	// Root 0 shows nothing that is there, root 1 shows object 2, and object 2 shows object 1, which is the queue's only one.
	words := trial.Puts(trial.Memory(sh, api.Grey, 0, trial.Cell{tagged(1, 6), 5}, trial.Cell{1, 9}), 10, 3, 11, 2, 3, tagged(1, 8), 14, tagged(0, 2), 15, 0, 19, tagged(1, 6))
	steps := []api.Step{
		load(0, 10, 3), load(0, 11, 2),
		load(0, 16, 1), trial.CAS(0, 16, 1, 3), load(0, 2, 0), trial.Store(0, 17, 9, 0), trial.CAS(0, 2, 0, tagged(2, 1)),
		load(0, 3, tagged(1, 8)), load(0, 12, tagged(1, 6)),
		load(0, 12, tagged(1, 6)), trial.CAS(0, 12, tagged(1, 6), tagged(3, 6)), load(0, 2, tagged(2, 1)), trial.Store(0, 13, 5, 2), trial.CAS(0, 2, tagged(2, 1), tagged(1, 2)),
		load(0, 14, tagged(0, 2)),
	}
	shaded := trial.Puts(words, 16, 3, 17, 0, 12, tagged(3, 6), 13, 2, 2, tagged(1, 2))
	tables.HoldSteps(t, sh, words, [][]api.Job{{{Kind: 1, C: 1}}}, nil, steps, [][]api.Answer{{trial.Told(2)}}, shaded)
	// 1 is pulled, and shows nothing; 2 is pulled, and shows 1, which has the colour.
	tables.HoldSteps(t, sh, shaded, [][]api.Job{{{Kind: 2, C: 1}}}, nil, []api.Step{
		load(0, 2, tagged(1, 2)), load(0, 13, 2), trial.CAS(0, 2, tagged(1, 2), tagged(2, 3)), load(0, 15, 0),
		load(0, 2, tagged(2, 3)), load(0, 17, 0), trial.CAS(0, 2, tagged(2, 3), tagged(0, 4)), load(0, 19, tagged(1, 6)), load(0, 12, tagged(3, 6)),
		load(0, 2, tagged(0, 4)),
	}, [][]api.Answer{{trial.Told(2)}}, trial.With(shaded, 2, tagged(0, 4)))
	// A queue that leads round and round is left behind as many objects as there are.
	ring := trial.Puts(words, 10, 0, 11, 0, 3, 2, 18, 2)
	tables.HoldSteps(t, sh, ring, [][]api.Job{{{Kind: 1, C: 0}}}, nil, []api.Step{
		load(0, 10, 0), load(0, 11, 0), load(0, 3, 2),
		load(0, 16, 1), load(0, 16, 1), load(0, 18, 2), load(0, 16, 1), load(0, 16, 1), load(0, 18, 2),
	}, [][]api.Answer{{trial.Told(0)}}, ring)
}

// Layer 21's table, on its chapter's example, and on ages, generations and colours at their end.
func TestSweeping(t *testing.T) {
	sh := api.Shape{Objects: 2, Hands: 1, Roots: 1} // heads 10 and 13
	tables := trial.Layer{Table: func(sh api.Shape, _ int, j api.Job, act trial.Act) api.Answer { return trial.Sweeping(sh, j.C, act) }}
	tables.Play = tables.Model
	const half, last = 1 << 32, 1<<32 - 1
	tagged, load := trial.Tagged, trial.Load
	words := trial.Puts(make([]uint64, 16), 10, 1, 13, 3)
	tables.HoldSteps(t, sh, words, [][]api.Job{{{C: 1}}}, nil, []api.Step{
		load(0, 10, 1),
		load(0, 10, 1), trial.Store(0, 10, 1, half), load(0, 1, 0), trial.Store(0, 11, 0, 0), trial.CAS(0, 1, 0, tagged(1, 1)), trial.Add(0, 5, 0, 1),
		load(0, 13, 3), trial.CAS(0, 13, 3, 0x103),
	}, [][]api.Answer{{trial.Told(1)}}, trial.Puts(words, 10, half, 1, tagged(1, 1), 5, 1, 13, 0x103))
	// One that is as old as can be, and one of the last generation; then one that is about to be so old, and one that is out of use.
	words = trial.Puts(make([]uint64, 16), 10, tagged(0xffffffff, 7), 13, tagged(0xff01, last))
	tables.HoldSteps(t, sh, words, [][]api.Job{{{C: -1}}}, nil, []api.Step{
		load(0, 10, words[10]),
		load(0, 13, words[13]), load(0, 13, words[13]), trial.Store(0, 13, words[13], last*half), trial.Add(0, 5, 0, 1),
	}, [][]api.Answer{{trial.Told(1)}}, trial.Puts(words, 13, last*half, 5, 1))
	words = trial.Puts(make([]uint64, 16), 10, 0xfffffefd, 13, 0xfe)
	tables.HoldSteps(t, sh, words, [][]api.Job{{{C: 4}}}, nil, []api.Step{
		load(0, 10, 0xfffffefd), trial.CAS(0, 10, 0xfffffefd, 0xfffffffd), load(0, 13, 0xfe),
	}, [][]api.Answer{{trial.Told(0)}}, trial.With(words, 10, 0xfffffffd))
	// Of two at one head, one CAS is not done.
	words = trial.Puts(make([]uint64, 16), 10, 3)
	tables.HoldSteps(t, sh, words, [][]api.Job{{{C: 1}}, {{C: 1}}}, nil, []api.Step{
		load(0, 10, 3), load(1, 10, 3), trial.CAS(0, 10, 3, 0x103), trial.Lost(1, 10, 0x103), load(0, 13, 0), load(1, 13, 0),
	}, [][]api.Answer{{trial.Told(0)}, {trial.Told(0)}}, trial.With(words, 10, 0x103))
}

// Layer 22's tables, on its chapter's examples, on a shape without weak words, and with others amid them.
func TestWipingGatheringTaking(t *testing.T) {
	sh := api.Shape{Objects: 2, Slots: 1, Hands: 1, Roots: 1, Weaks: 2} // the weak words 10 and 11, the heads 12 and 16
	tables := trial.Layer{Table: func(sh api.Shape, _ int, j api.Job, act trial.Act) api.Answer {
		switch j.Kind {
		case 1:
			return trial.Wiping(sh, j.C, act)
		case 2:
			return trial.Gathering(sh, j.C, act)
		}
		return trial.Taking(sh, act)
	}}
	tables.Play = tables.Model
	tagged, load := trial.Tagged, trial.Load
	words := trial.Puts(make([]uint64, trial.SizeOf(sh)), 10, 2, 11, 3, 12, 5, 15, 2, 16, 1)
	hold := func(words []uint64, j api.Job, want api.Answer, after []uint64, steps ...api.Step) {
		t.Helper()
		tables.HoldSteps(t, sh, words, [][]api.Job{{j}}, nil, steps, [][]api.Answer{{want}}, after)
	}
	hold(words, api.Job{Kind: 1, C: -1}, trial.Told(1), trial.With(words, 10, 0), load(0, 10, 2), load(0, 16, 1), trial.CAS(0, 10, 2, 0), load(0, 11, 3))
	hold(words, api.Job{Kind: 1, C: 2}, trial.Told(0), words, load(0, 10, 2), load(0, 16, 1), load(0, 11, 3))
	called := trial.Puts(words, 12, 15, 16, 3, 2, tagged(0, 4), 3, tagged(1, 1), 6, 1)
	hold(words, api.Job{Kind: 2, C: 1}, trial.Told(1), called,
		load(0, 12, 5), trial.CAS(0, 12, 5, 15), load(0, 2, 0), trial.Store(0, 13, 0, 0), trial.CAS(0, 2, 0, tagged(1, 1)),
		load(0, 16, 1),
		load(0, 2, tagged(1, 1)), load(0, 13, 0), trial.CAS(0, 2, tagged(1, 1), tagged(0, 2)), load(0, 15, 2),
		load(0, 16, 1), trial.CAS(0, 16, 1, 3), load(0, 2, tagged(0, 2)), trial.Store(0, 17, 0, 0), trial.CAS(0, 2, tagged(0, 2), tagged(2, 3)),
		load(0, 2, tagged(2, 3)), load(0, 17, 0), trial.CAS(0, 2, tagged(2, 3), tagged(0, 4)), load(0, 19, 0), load(0, 2, tagged(0, 4)),
		load(0, 3, 0), trial.Store(0, 14, 0, 0), trial.CAS(0, 3, 0, tagged(1, 1)), trial.Add(0, 6, 0, 1))
	hold(words, api.Job{Kind: 2, C: -2}, trial.Told(0), words, load(0, 12, 5), load(0, 16, 1), load(0, 2, 0))
	drawn := trial.With(called, 3, tagged(0, 2))
	hold(called, api.Job{}, trial.Told(1), drawn, load(0, 3, tagged(1, 1)), load(0, 14, 0), trial.CAS(0, 3, tagged(1, 1), tagged(0, 2)), load(0, 12, 15))
	hold(drawn, api.Job{}, api.Answer{}, drawn, load(0, 3, tagged(0, 2)))
	older := trial.Puts(called, 12, tagged(15, 7), 14, tagged(9, 6))
	hold(older, api.Job{}, trial.Told(tagged(1, 7)), trial.With(older, 3, tagged(9, 2)),
		load(0, 3, tagged(1, 1)), load(0, 14, tagged(9, 6)), trial.CAS(0, 3, tagged(1, 1), tagged(9, 2)), load(0, 12, tagged(15, 7)))
	none := api.Shape{Objects: 1, Hands: 1, Roots: 1} // the head 10
	plain := trial.Puts(make([]uint64, 13), 0, 7, 10, 5)
	tables.HoldSteps(t, none, plain, [][]api.Job{{{Kind: 1}}}, nil, []api.Step{load(0, 0, 7)}, [][]api.Answer{{trial.Told(0)}}, plain)
	// Of two at one weak word, at one object and at one queue, one CAS is not done.
	words = trial.Puts(words, 11, 0, 12, 1)
	tables.HoldSteps(t, sh, words, [][]api.Job{{{Kind: 1, C: 1}}, {{Kind: 1, C: 1}}}, nil, []api.Step{
		load(0, 10, 2), load(1, 10, 2), load(0, 16, 1), load(1, 16, 1), trial.CAS(0, 10, 2, 0), trial.Lost(1, 10, 0), load(0, 11, 0), load(1, 11, 0),
	}, [][]api.Answer{{trial.Told(1)}, {trial.Told(0)}}, trial.With(words, 10, 0))
	tables.HoldSteps(t, none, plain, [][]api.Job{{{Kind: 2, C: 1}}, {{Kind: 2, C: 1}}}, []int{0, 1, 0, 1, 1}, []api.Step{
		load(0, 10, 5), load(1, 10, 5), trial.CAS(0, 10, 5, 15), trial.Lost(1, 10, 15), load(1, 2, 0),
		load(0, 2, 0), trial.Store(0, 11, 0, 0), trial.CAS(0, 2, 0, tagged(1, 1)), load(0, 2, tagged(1, 1)), load(0, 11, 0), trial.CAS(0, 2, tagged(1, 1), tagged(0, 2)), load(0, 2, tagged(0, 2)),
		load(0, 3, 0), trial.Store(0, 12, 0, 0), trial.CAS(0, 3, 0, tagged(1, 1)), trial.Add(0, 6, 0, 1),
	}, [][]api.Answer{{trial.Told(1)}, {trial.Told(0)}}, trial.Puts(plain, 10, 15, 2, tagged(0, 2), 3, tagged(1, 1), 6, 1))
	queue := trial.With(plain, 3, tagged(1, 1<<32-1))
	tables.HoldSteps(t, none, queue, [][]api.Job{{{}}, {{}}}, nil, []api.Step{
		load(0, 3, queue[3]), load(1, 3, queue[3]), load(0, 12, 0), load(1, 12, 0), trial.CAS(0, 3, queue[3], 0), trial.Lost(1, 3, 0), load(0, 10, 5), load(1, 3, 0),
	}, [][]api.Answer{{trial.Told(1)}, {{}}}, trial.With(queue, 3, 0))
}

// What is due: an object in use, of another colour, with a finalizer that isn't taken.
func TestIsDue(t *testing.T) {
	for lower := range uint64(32) {
		for colour := -2; colour <= 3; colour++ {
			isUsed, isOther := lower%2 == 1, (lower/2%2 == 1) != (colour%2 != 0)
			want := isUsed && isOther && lower/4%2 == 1 && lower/8%2 == 0
			if got := trial.IsDue(trial.Tagged(int(lower), 7), colour); got != want {
				t.Error(lower, colour, got)
			}
		}
	}
}

// Heads: in use and not, of both colours, of all ages and generations, those at the ends among them; with other bits and without.
func TestHead(t *testing.T) {
	from := trial.Source(10)
	ages, gens, foots := map[uint64]int{}, map[uint64]int{}, map[uint64]int{}
	other, n := 0, 4000
	for range n {
		head := from.Head()
		foots[head%16]++
		ages[head/256%256]++
		gens[trial.Upper(head)]++
		if head&0xffff00f0 != 0 {
			other++
		}
	}
	for foot := range uint64(16) {
		if foots[foot] < 50 {
			t.Error(foot, foots)
		}
	}
	if min(ages[0], ages[1], ages[254], ages[255]) < 500 || len(ages) < 200 || min(gens[0], gens[1<<32-2], gens[1<<32-1]) < 400 || other < n/3 || other > 2*n/3 {
		t.Error(ages, gens, other)
	}
}

// What is no handle of a white object.
func TestWhite(t *testing.T) {
	const half = 1 << 32
	for _, c := range []struct {
		head, gen uint64
		colour    int
		want      bool
	}{
		{1, 0, 1, true}, {1, 0, 0, false}, {1, 1, 1, false}, {2, 0, 0, false}, {3, 0, 0, true}, {3, 0, 2, true}, {3, 0, -2, true},
		{1, 0, -1, true}, {1, 0, 3, true}, {3, 0, -1, false}, {half + 1, 1, 1, true}, {half + 1, 0, 1, false}, {0, 0, 1, false},
		{0xfffd, 0, 1, true}, {0xfffc, 0, 1, false},
	} {
		if got := trial.White(c.head, c.gen, c.colour); got != c.want {
			t.Error(c, got)
		}
	}
}

// heapOn: the layer on trial on a heap's memory, as a layer that has no Free.
func heapOn(run func(words []uint64, hands [][]api.Job, schedule []int, most int) (api.Trace, [][]api.Answer, api.Errno)) trial.Layer {
	return trial.Layer{Size: shape.Size, Fresh: shape.Fresh, Table: table,
		Play: func(sh api.Shape, words []uint64, hands [][]api.Job, schedule []int, most int) (api.Trace, [][]api.Answer, api.Errno) {
			size, e := shape.Size(sh)
			if e != api.OK {
				return api.Trace{}, nil, e
			}
			if len(words) != size {
				return api.Trace{}, nil, api.ErrSize
			}
			return run(words, hands, schedule, most)
		}}
}

func heapRun(words []uint64, hands [][]api.Job, schedule []int, most int) (api.Trace, [][]api.Answer, api.Errno) {
	return turn.Play(words, hands, schedule, most, func(hand int, j api.Job) (turn.Task, api.Errno) {
		return task(api.Shape{Room: 4}, hand, j)
	})
}

// A layer without Free is held to the rules by Play alone; its faults are heard all the same.
func TestLayerWithoutFree(t *testing.T) {
	sh := api.Shape{Objects: 2, Slots: 1, Hands: 1, Roots: 2, Weaks: 1}
	words := make([]uint64, trial.SizeOf(sh))
	hands := [][]api.Job{{add(1), add(2)}, {add(3)}}
	rules := func(t trial.T, l trial.Layer) {
		l.HoldRefusals(t, trial.HeapFaults(sh, add(1), 1))
		l.HoldMemory(t, sh, words, hands, []int{0, 1}, 30)
	}
	for _, c := range []struct {
		name  string
		spoil func(l *trial.Layer)
		heard bool
	}{
		{"nothing", func(*trial.Layer) {}, false},
		{"a shape that isn't looked at", func(l *trial.Layer) {
			l.Play = func(sh api.Shape, words []uint64, hands [][]api.Job, schedule []int, most int) (api.Trace, [][]api.Answer, api.Errno) {
				sh.Weaks = max(sh.Weaks, 0)
				return heapOn(heapRun).Play(sh, words, hands, schedule, most)
			}
		}, true},
		{"a kind more", func(l *trial.Layer) {
			*l = heapOn(func(words []uint64, hands [][]api.Job, schedule []int, most int) (api.Trace, [][]api.Answer, api.Errno) {
				if len(hands) == 1 && len(hands[0]) == 1 && hands[0][0].Kind == 2 {
					hands = [][]api.Job{{add(1)}}
				}
				return heapRun(words, hands, schedule, most)
			})
		}, true},
		{"words that change", func(l *trial.Layer) {
			*l = heapOn(func(words []uint64, hands [][]api.Job, schedule []int, most int) (api.Trace, [][]api.Answer, api.Errno) {
				x, a, e := heapRun(words, hands, schedule, most)
				_ = append(words, 1)
				return x, a, e
			})
		}, true},
	} {
		l := heapOn(heapRun)
		c.spoil(&l)
		if hears(func(t trial.T) { rules(t, l) }) != c.heard {
			t.Error(c.name)
		}
	}
}

// A task that takes no notice of others is found out by acts amid its steps alone.
func TestTaskAmid(t *testing.T) {
	sh, words := api.Shape{Room: 1}, []uint64{4}
	deaf := sound()
	deaf.Table = func(_ api.Shape, _ int, j api.Job, act trial.Act) api.Answer {
		w := act.Load(j.A)
		act.CAS(j.A, w, w+j.H)
		return trial.Told(w)
	}
	twice := func(i int) []api.Step {
		if i == 1 || i == 3 {
			return []api.Step{{Act: api.Add, At: 0, Put: 5}, {Act: api.Store, At: 7, Put: 5}}
		}
		return nil
	}
	for _, hand := range []int{0, -3} {
		if hears(func(t trial.T) { deaf.HoldTask(t, sh, hand, add(1), words, 9) }) {
			t.Error("alone it does the same")
		}
		if !hears(func(t trial.T) { deaf.HoldTaskAmid(t, sh, hand, add(1), words, 9, twice) }) {
			t.Error("nothing is heard")
		}
		if hears(func(t trial.T) { sound().HoldTaskAmid(t, sh, hand, add(1), words, 9, twice) }) {
			t.Error("something is heard")
		}
	}
}
