package trial_test

import (
	"slices"
	"testing"

	"midden/api"
	"midden/shape"
	"midden/trial"
	"midden/view"
)

// A hand on a heap of three objects: what it makes, puts and drops is seen; what there is no room for is refused.
func TestHeap(t *testing.T) {
	sh := api.Shape{Objects: 3, Slots: 1, Hands: 2, Roots: 2}
	words, _ := shape.Fresh(sh)
	jobs := []api.Job{
		{Kind: api.New, A: 0}, {Kind: api.New, A: 1, B: 1}, {Kind: api.Put, A: 0, B: 0, C: 1}, {Kind: api.Put, A: 0, B: 1, C: 1},
		{Kind: api.Drop, A: 0}, {Kind: api.Put, A: 0, B: 0, C: 1}, {Kind: api.Drop, A: 1, B: 1}, {Kind: api.Drop, A: 1, B: 1},
		{Kind: api.New, A: 0}, {Kind: api.New, A: 1},
	}
	x, a, e := trial.Heap().Model(sh, words, [][]api.Job{nil, jobs}, nil, 500)
	told := []api.Answer{trial.Told(1), trial.Told(2), trial.Told(2), {}, trial.Told(1), {}, trial.Told(2), trial.Told(0), trial.Told(3), {}}
	if e != api.OK || !x.Ended || !slices.Equal(a[1], told) {
		t.Fatal(x, a, e)
	}
	v, _ := view.Look(sh, x.Words)
	if !slices.EqualFunc(v.Roots, [][]uint64{{0, 0}, {3, 0}}, slices.Equal) || len(v.Free) > 0 || !slices.Equal(v.Queue, []int{2}) {
		t.Errorf("%+v", v)
	}
	if o := v.Objects; !o[0].Used || o[0].Final || o[0].Slots[0] != 2 || !o[1].Used || !o[1].Final || !o[1].Taken || !o[2].Used {
		t.Errorf("%+v", o)
	}
	if e := view.Check(sh, x.Words); e != api.OK {
		t.Error(e)
	}
}

// By any jobs of any schedule a heap is sound in the end.
func TestHeapJobs(t *testing.T) {
	from := trial.Source(3)
	for range 300 {
		sh := from.Shape()
		words, _ := shape.Fresh(sh)
		hands := from.HeapJobs(sh, 8)
		x, _, e := trial.Heap().Model(sh, words, hands, from.Schedule(50), 2000)
		if e != api.OK || !x.Ended || len(hands) != sh.Hands || view.Check(sh, x.Words) != api.OK {
			t.Fatal(sh, hands, x.Ended, e, view.Check(sh, x.Words))
		}
	}
}

// Older words are seen as fresh ones, but for the generations; and they are of all three kinds.
func TestOlder(t *testing.T) {
	from := trial.Source(4)
	gens := map[uint64]int{}
	for range 100 {
		sh := from.Shape()
		words, _ := shape.Fresh(sh)
		fresh, v := trial.LookAt(t, sh, words), trial.LookAt(t, sh, from.Older(sh))
		for i, o := range v.Objects {
			gens[o.Gen]++
			fresh.Objects[i].Gen = o.Gen
		}
		if !trial.SameView(v, fresh) {
			t.Fatalf("%+v; want %+v", v, fresh)
		}
	}
	if len(gens) != 3 || min(gens[0], gens[1], gens[1<<32-1]) < 50 {
		t.Error(gens)
	}
	if !hears(func(t trial.T) { trial.LookAt(t, api.Shape{}, nil) }) {
		t.Error("no view, and nothing is said")
	}
}

// What runs on a heap leave, and what acts make of it: words of this shape; heaps of all fillings, most of them at rest.
func TestRan(t *testing.T) {
	from := trial.Source(6)
	used, none, amid, changed := 0, 0, 0, 0
	for range 100 {
		sh := from.Shape()
		words := from.Ran(sh)
		v := trial.LookAt(t, sh, words)
		if made := int(v.Counts[0]); made == 0 {
			none++
		} else if used++; view.Check(sh, words) != api.OK {
			amid++
		}
		held := slices.Clone(words)
		behind := from.Acted(sh, words)
		trial.LookAt(t, sh, behind)
		if !slices.Equal(words, held) {
			t.Fatal("the words have changed")
		}
		if !slices.Equal(words, behind) {
			changed++
		}
	}
	if min(used, none, amid, changed) < 2 || used < 80 || changed < 80 || amid > 40 {
		t.Error(used, none, amid, changed)
	}
}

// Small shapes are right ones, and many have so few objects.
func TestSmallShapes(t *testing.T) {
	from := trial.Source(7)
	few := 0
	for range 300 {
		sh := from.SmallShape()
		if e := shape.Check(sh); e != api.OK {
			t.Fatal(sh, e)
		}
		if sh.Objects <= 3 {
			few++
		}
	}
	if few < 150 || few > 290 {
		t.Error(few)
	}
}
