package graph_test

import (
	"math"
	"slices"
	"testing"

	"midden/api"
	"midden/graph"
	"midden/trial"
)

// holdReach fails, if Reach doesn't answer by the chapter.
func holdReach(t *testing.T, v api.View, from []uint64) []bool {
	t.Helper()
	got := graph.Reach(v, from)
	if want := trial.Reached(v, from); !slices.Equal(got, want) {
		t.Fatalf("Reach of %+v from %x: %v; want %v", v, from, got, want)
	}
	return got
}

// holdView fails, if a call doesn't answer by the chapter for this view.
func holdView(t *testing.T, v api.View) {
	t.Helper()
	if got, want := graph.Roots(v), trial.Starts(v); !slices.Equal(got, want) {
		t.Fatalf("Roots of %+v: %x; want %x", v, got, want)
	}
	if got, want := graph.Live(v), trial.Reached(v, trial.Starts(v)); !slices.Equal(got, want) {
		t.Fatalf("Live of %+v: %v; want %v", v, got, want)
	}
	if got, want := graph.Dead(v), dead(v); !slices.Equal(got, want) {
		t.Fatalf("Dead of %+v: %v; want %v", v, got, want)
	}
	if got, want := graph.Held(v), held(v); !slices.Equal(got, want) {
		t.Fatalf("Held of %+v: %v; want %v", v, got, want)
	}
	for to := range len(v.Objects) + 2 {
		if got, want := graph.Way(v, to), way(v, to); !slices.Equal(got, want) {
			t.Fatalf("Way of %+v to %d: %v; want %v", v, to, got, want)
		}
	}
	holdReach(t, v, nil)
	for i := range v.Objects {
		holdReach(t, v, []uint64{trial.Own(v, i+1)})
	}
}

// object: one in use, of generation 0.
func object(slots ...uint64) api.Object { return api.Object{Used: true, Slots: slots} }

// rooted: a view of these objects, whose one hand has these roots.
func rooted(roots []uint64, objects ...api.Object) api.View {
	return api.View{Objects: objects, Roots: [][]uint64{roots}}
}

// three: the chapter's examples: 1 shows 2, 2 shows 2, 3 shows 1.
func three() api.View { return rooted([]uint64{0, 1}, object(2), object(2), object(1)) }

func TestP14_1_Examples(t *testing.T) {
	v := three()
	if got := graph.Live(v); !slices.Equal(got, []bool{true, true, false}) {
		t.Error("Live:", got)
	}
	if got := graph.Dead(v); !slices.Equal(got, []int{3}) {
		t.Error("Dead:", got)
	}
	for to, want := range map[int][]int{2: {1, 2}, 1: {1}, 3: nil, 9: nil} {
		if got := graph.Way(v, to); !slices.Equal(got, want) {
			t.Errorf("Way to %d: %v", to, got)
		}
	}
	if got := graph.Reach(v, []uint64{3}); !slices.Equal(got, []bool{true, true, true}) {
		t.Error("Reach of 3:", got)
	}
	if got := graph.Reach(v, []uint64{half + 2}); !slices.Equal(got, []bool{false, false, false}) {
		t.Error("Reach of 2 with Gen 1:", got)
	}
	v.Objects[2].Final = true
	if got := graph.Held(v); !slices.Equal(got, []bool{true, true, true}) {
		t.Error("Held:", got)
	}
	v.Queue = []int{3}
	if got := graph.Roots(v); !slices.Equal(got, []uint64{1, 3}) {
		t.Error("Roots:", got)
	}
	if got := graph.Dead(v); len(got) > 0 {
		t.Error("Dead:", got)
	}
	holdView(t, v)
}

func TestP14_1_NoObject(t *testing.T) {
	for _, v := range []api.View{
		{}, {Objects: []api.Object{}, Roots: [][]uint64{}, Queue: []int{}}, {Roots: [][]uint64{nil, {}, {0}}}, {Roots: [][]uint64{{0, 1}}, Queue: []int{0, 1, -1}},
	} {
		holdView(t, v)
		holdReach(t, v, []uint64{0, 1, 2, half, math.MaxUint64})
		if len(graph.Live(v))+len(graph.Dead(v))+len(graph.Held(v))+len(graph.Reach(v, []uint64{1})) > 0 {
			t.Errorf("%+v: something of nothing", v)
		}
		for _, to := range append([]int{0, 1, 2}, trial.Ends()...) {
			if got := graph.Way(v, to); len(got) > 0 {
				t.Errorf("%+v, to %d: %v", v, to, got)
			}
		}
	}
}

// None in use: roots, queue and slots show them in vain. All in use: they don't.
func TestP14_1_NoneInUseAndAllInUse(t *testing.T) {
	v := api.View{Objects: []api.Object{{Slots: []uint64{2, 1}}, {Slots: []uint64{1}, Final: true}, {}}, Roots: [][]uint64{{1, 2}, {3}}, Queue: []int{2, 3}}
	holdView(t, v)
	if slices.Contains(graph.Live(v), true) || slices.Contains(graph.Held(v), true) || len(graph.Dead(v)) > 0 || len(graph.Way(v, 1)) > 0 {
		t.Errorf("none in use: %v %v %v %v", graph.Live(v), graph.Held(v), graph.Dead(v), graph.Way(v, 1))
	}
	if got := graph.Roots(v); !slices.Equal(got, []uint64{1, 2, 3, 2, 3}) {
		t.Error("the roots of such as aren't in use:", got)
	}
	for i := range v.Objects {
		v.Objects[i].Used = true
	}
	holdView(t, v)
	if slices.Contains(graph.Live(v), false) || slices.Contains(graph.Held(v), true) || len(graph.Dead(v)) > 0 {
		t.Errorf("all in use: %v %v %v", graph.Live(v), graph.Held(v), graph.Dead(v))
	}
	v.Roots, v.Queue = nil, nil
	holdView(t, v)
	if got := graph.Held(v); !slices.Equal(got, []bool{true, true, false}) || !slices.Equal(graph.Dead(v), []int{1, 2, 3}) {
		t.Error("all dead:", got, graph.Dead(v))
	}
}

// A handle that isn't good counts for nothing in a root, in a slot and in from.
func TestP14_1_BadHandles(t *testing.T) {
	for _, h := range []uint64{0, half, 5 * half, 1, half + 1, 3*half + 1, 3, 7*half + 3, 4, 2*half + 4, half - 1, half / 2, half + 2, math.MaxUint64, 1 << 63} {
		v := rooted([]uint64{h}, api.Object{Used: true, Gen: 2, Slots: []uint64{2}}, object(), api.Object{Gen: 7, Slots: []uint64{2}})
		holdView(t, v)
		got := holdReach(t, v, []uint64{h, h})
		if slices.Contains(got, true) || slices.Contains(graph.Live(v), true) || !slices.Equal(graph.Dead(v), []int{1, 2}) {
			t.Errorf("%x: %v %v %v", h, got, graph.Live(v), graph.Dead(v))
		}
		v = rooted([]uint64{2*half + 1}, api.Object{Used: true, Gen: 2, Slots: []uint64{h, 2}}, object(h), api.Object{Gen: 7, Slots: []uint64{2}})
		holdView(t, v)
		if got := graph.Live(v); !slices.Equal(got, []bool{true, true, false}) {
			t.Errorf("%x in a slot: %v", h, got)
		}
	}
}

// Roots that aren't 0 are told, good or not, each as often as it stands there; and in their order.
func TestP14_1_RootsInTheirOrder(t *testing.T) {
	v := three()
	v.Objects[1].Gen, v.Objects[2].Gen, v.Objects[0].Used = 9, half+5, false
	v.Roots = [][]uint64{{0, 7, 0, half}, nil, {0, 0}, {3, 2, 7}, {math.MaxUint64}}
	v.Queue = []int{3, 0, 2, 4, 2, -1, 1, math.MinInt, math.MaxInt, half + 1}
	want := []uint64{7, half, 3, 2, 7, math.MaxUint64, 5*half + 3, 9*half + 2, 9*half + 2, 1}
	if got := graph.Roots(v); !slices.Equal(got, want) {
		t.Errorf("%x; want %x", got, want)
	}
	holdView(t, v)
}

func TestP14_1_QueueOfNoObject(t *testing.T) {
	for _, number := range append([]int{0, 4, 5, half, half + 1, half + 3, -half + 3}, trial.Ends()...) {
		v := three()
		v.Queue = []int{number}
		holdView(t, v)
		if got := graph.Roots(v); !slices.Equal(got, []uint64{1}) || !slices.Equal(graph.Dead(v), []int{3}) {
			t.Errorf("%d: %x, %v", number, got, graph.Dead(v))
		}
		v.Queue = []int{number, 3, number}
		if got := graph.Roots(v); !slices.Equal(got, []uint64{1, 3}) || len(graph.Dead(v)) > 0 {
			t.Errorf("%d and 3: %x, %v", number, got, graph.Dead(v))
		}
	}
}

func TestP14_1_WayToNoObject(t *testing.T) {
	for _, to := range append([]int{0, 4, 5, half, half + 1, half + 2, -half + 1}, trial.Ends()...) {
		if got := graph.Way(three(), to); len(got) > 0 {
			t.Errorf("%d: %v", to, got)
		}
	}
}

// Objects that show themselves, one another in a ring, none, one twice; with a tail to a ring, and with two rings.
func TestP14_1_Rings(t *testing.T) {
	ring := []api.Object{object(2), object(3), object(1), object(4, 4), object(5, 1), object(), object(8), object(7)}
	for from, want := range map[uint64][]int{1: {1, 2, 3}, 2: {1, 2, 3}, 4: {4}, 5: {1, 2, 3, 5}, 6: {6}, 7: {7, 8}} {
		v := rooted([]uint64{from}, ring...)
		holdView(t, v)
		live := graph.Live(v)
		for i := range live {
			if live[i] != slices.Contains(want, i+1) {
				t.Errorf("%d: %v; want %v", from, live, want)
			}
		}
	}
	v := rooted([]uint64{2, 8}, ring...)
	for to, want := range map[int][]int{1: {2, 3, 1}, 2: {2}, 3: {2, 3}, 4: nil, 5: nil, 7: {8, 7}, 8: {8}} {
		if got := graph.Way(v, to); !slices.Equal(got, want) {
			t.Errorf("to %d: %v; want %v", to, got, want)
		}
	}
	ring[6].Final = true
	v = rooted([]uint64{2}, ring...)
	if got := graph.Dead(v); !slices.Equal(got, []int{4, 5, 6, 7, 8}) {
		t.Error("a ring that nothing leads to:", got)
	}
	if got := graph.Held(v); !slices.Equal(got, []bool{false, false, false, false, false, false, true, true}) {
		t.Error("a ring that is held:", got)
	}
}

func TestP14_1_FromOfAllKinds(t *testing.T) {
	v := three()
	for _, from := range [][]uint64{nil, {}} {
		if got := holdReach(t, v, from); slices.Contains(got, true) {
			t.Errorf("from nothing: %v", got)
		}
	}
	if got := holdReach(t, v, []uint64{2, 2}); !slices.Equal(got, []bool{false, true, false}) {
		t.Errorf("one twice: %v", got)
	}
	if got := holdReach(t, v, []uint64{0, 4, half + 1, math.MaxUint64}); slices.Contains(got, true) {
		t.Errorf("bad ones alone: %v", got)
	}
	if got := holdReach(t, v, []uint64{9, 3, 0}); slices.Contains(got, false) {
		t.Errorf("a good one amid bad ones: %v", got)
	}
	// The roots count for nothing, where from is handed in.
	v.Roots, v.Queue = [][]uint64{{1, 2, 3}}, []int{1, 2, 3}
	if got := holdReach(t, v, []uint64{2}); !slices.Equal(got, []bool{false, true, false}) {
		t.Errorf("with roots: %v", got)
	}
}

// Objects have as many slots as they like, each with a place for its own good one.
func TestP14_1_SlotsOfAnyNumber(t *testing.T) {
	for n := range 12 {
		slots := make([]uint64, n)
		for at := range slots {
			slots[at] = 2
			v := rooted([]uint64{1}, object(slots...), object(), object(2, 1, 2, 3, 3))
			holdView(t, v)
			if got := graph.Live(v); !slices.Equal(got, []bool{true, true, false}) {
				t.Errorf("%d slots, at %d: %v", n, at, got)
			}
			slots[at] = uint64(at) * half
		}
	}
}

// Of the generation 2^32 - 1 a handle is good; of 2^32 on none is, whatever its upper half: so neither a root, nor the queue,
// nor a finalizer leads to such an object, nor over it.
func TestP14_1_GreatGenerations(t *testing.T) {
	for _, gen := range []uint64{0, 1, half - 2, half - 1, half, half + 1, 2 * half, 1 << 63, math.MaxUint64 - 1, math.MaxUint64} {
		fits := gen < half
		own := gen%half*half + 2
		v := rooted([]uint64{1}, object(own), api.Object{Used: true, Gen: gen, Slots: []uint64{3}}, object())
		holdView(t, v)
		if got := graph.Live(v); !slices.Equal(got, []bool{true, fits, fits}) {
			t.Errorf("Gen %x in a slot: %v", gen, got)
		}
		v = rooted([]uint64{own}, v.Objects...)
		holdView(t, v)
		if got := graph.Live(v); !slices.Equal(got, []bool{false, fits, fits}) {
			t.Errorf("Gen %x in a root: %v", gen, got)
		}
		v.Roots, v.Queue = nil, []int{2}
		holdView(t, v)
		if got := graph.Roots(v); !slices.Equal(got, []uint64{own}) || graph.Live(v)[1] != fits || len(graph.Way(v, 3)) > 0 != fits {
			t.Errorf("Gen %x in the queue: %x, %v", gen, got, graph.Live(v))
		}
		v.Queue, v.Objects[1].Final = nil, true
		holdView(t, v)
		if got := graph.Held(v); !slices.Equal(got, []bool{false, fits, fits}) || !slices.Equal(graph.Dead(v), []int{1, 2, 3}) {
			t.Errorf("Gen %x with a finalizer: %v", gen, got)
		}
	}
}

// Each of the four ways of being Final and Taken, dead and live, in use and not.
func TestP14_1_HeldByThoseWhoseFinalizerIsNotTaken(t *testing.T) {
	for code := range 16 {
		final, taken, live, used := code&1 > 0, code&2 > 0, code&4 > 0, code&8 > 0
		v := rooted([]uint64{0}, object(), api.Object{Used: used, Final: final, Taken: taken, Slots: []uint64{3}}, object(2), object(1))
		if live {
			v.Roots[0][0] = 2
		}
		holdView(t, v)
		isHeld := final && !taken && !live && used
		if got := graph.Held(v); !slices.Equal(got, []bool{false, isHeld, isHeld, false}) {
			t.Errorf("Final %v, Taken %v, live %v, in use %v: %v", final, taken, live, used, got)
		}
	}
	// What is held may be live: a dead object shows it.
	v := rooted([]uint64{1}, object(), api.Object{Used: true, Final: true, Slots: []uint64{1}})
	holdView(t, v)
	if got := graph.Held(v); !slices.Equal(got, []bool{true, true}) {
		t.Error("a live one that a dead one shows:", got)
	}
}

// Several ways lead to an object: the shortest counts, and of these the least at the first place where they differ, whatever
// the order of roots and slots.
func TestP14_1_SeveralWays(t *testing.T) {
	for _, c := range []struct {
		name  string
		roots []uint64
		show  [][]uint64
		want  []int
	}{
		{"a root of its own", []uint64{1, 2, 4}, [][]uint64{{4}, {4}, {4}, nil}, []int{4}},
		{"the lowest of three, the roots falling", []uint64{3, 2, 1}, [][]uint64{{4}, {4}, {4}, nil}, []int{1, 4}},
		{"the lowest is no root", []uint64{3, 2}, [][]uint64{{4}, {4}, {4}, nil}, []int{2, 4}},
		{"shorter by a greater number", []uint64{1, 3}, [][]uint64{{2}, {4}, {4}, nil}, []int{3, 4}},
		{"the slots falling", []uint64{1}, [][]uint64{{3, 2}, {4}, {4}, nil}, []int{1, 2, 4}},
		{"least at the first place, greater at the next", []uint64{2, 1}, [][]uint64{{5}, {3}, {6}, nil, {6}, nil}, []int{1, 5, 6}},
		{"by the way to the one ahead, not by its number", []uint64{2, 1}, [][]uint64{{4}, {3}, {5}, {5}, nil}, []int{1, 4, 5}},
		{"the least number on a way that is too long", []uint64{5, 4}, [][]uint64{{6}, {6}, {1}, {3, 2}, {2}, nil}, []int{4, 2, 6}},
		{"one root twice", []uint64{2, 2, 2}, [][]uint64{nil, {3, 3}, {4}, {2}}, []int{2, 3, 4}},
		{"none", []uint64{1, 2}, [][]uint64{{2}, {1}, {4}, {3}}, nil},
	} {
		v := rooted(c.roots)
		for _, slots := range c.show {
			v.Objects = append(v.Objects, object(slots...))
		}
		holdView(t, v)
		if got := graph.Way(v, len(c.show)); !slices.Equal(got, c.want) {
			t.Errorf("%s: %v; want %v", c.name, got, c.want)
		}
	}
	// The queue's objects begin a way as the roots' do.
	v := rooted([]uint64{3}, object(4), object(4), object(4), object())
	v.Queue = []int{2, 9, 1}
	holdView(t, v)
	if got := graph.Way(v, 4); !slices.Equal(got, []int{1, 4}) {
		t.Error("by the queue:", got)
	}
}

// What the words don't name makes no difference: weak words, the other lists, colours, ages, links.
func TestP14_1_LooksAtNothingElse(t *testing.T) {
	from := trial.Source(1)
	for range 3000 {
		v, other := from.View(6), from.View(6)
		o := trial.RoomyView(v)
		o.Phase, o.Colour, o.Round, o.Acks, o.Weaks, o.Free, o.Grey, o.Counts = other.Phase, other.Colour, other.Round, other.Acks, other.Weaks, other.Free, other.Grey, other.Counts
		for i := range o.Objects {
			p := &o.Objects[i]
			p.Live, p.Age, p.Link, p.Next = !p.Live, from.End(), from.Value(), from.Value()
		}
		same := slices.Equal(graph.Roots(v), graph.Roots(o)) && slices.Equal(graph.Live(v), graph.Live(o)) && slices.Equal(graph.Dead(v), graph.Dead(o)) && slices.Equal(graph.Held(v), graph.Held(o))
		for to := range len(v.Objects) + 1 {
			same = same && slices.Equal(graph.Way(v, to), graph.Way(o, to))
		}
		if !same {
			t.Fatalf("%+v and %+v", v, o)
		}
	}
}

func TestP14_1_AnyViews(t *testing.T) {
	from := trial.Source(2)
	for i := range 30000 {
		v := from.View(5 + i%8)
		holdView(t, v)
		handles := make([]uint64, from.Below(5))
		for k := range handles {
			handles[k] = from.Handle(v.Objects)
		}
		holdReach(t, v, handles)
	}
}

// Many objects: in one row, of which each shows the next one; all shown by one; all in from. None takes long, and none is too
// deep.
func TestP14_1_ManyObjects(t *testing.T) {
	const many = 300000
	row := rooted([]uint64{many})
	for i := range many {
		row.Objects = append(row.Objects, object(uint64(i)))
	}
	if slices.Contains(graph.Live(row), false) || len(graph.Dead(row)) > 0 {
		t.Error("a row is live to its end")
	}
	way := graph.Way(row, 1)
	if len(way) != many || way[0] != many || way[many-1] != 1 {
		t.Errorf("the way along the row: %d", len(way))
	}
	row.Roots, row.Objects[many-1].Final = nil, true
	if slices.Contains(graph.Held(row), false) || len(graph.Dead(row)) != many {
		t.Error("a row is held to its end")
	}
	star := rooted([]uint64{1}, make([]api.Object, many)...)
	for i := range many {
		star.Objects[i].Used = true
		star.Objects[0].Slots = append(star.Objects[0].Slots, uint64(many-i))
	}
	if slices.Contains(graph.Live(star), false) || !slices.Equal(graph.Way(star, many), []int{1, many}) {
		t.Error("a star is live")
	}
	if slices.Contains(graph.Reach(star, star.Objects[0].Slots), false) {
		t.Error("all of them in from")
	}
}
