package hue_test

import (
	"math"
	"slices"
	"testing"

	"midden/api"
	"midden/hue"
	"midden/trial"
)

// holdView fails, if a call doesn't answer by the chapter for this view.
func holdView(t *testing.T, v api.View, busy []int) {
	t.Helper()
	if got, want := answersOf(v, busy), wanted(v, busy); !got.same(want) {
		t.Fatalf("%+v, busy %v: %+v; want %+v", v, busy, got, want)
	}
}

// holdLaws fails, if Strong and Weak don't tell these numbers (0: OK) of the view.
func holdLaws(t *testing.T, name string, v api.View, busy []int, strong, weak int) {
	t.Helper()
	holdView(t, v, busy)
	a := answersOf(v, busy)
	if a.strong != verdictOf(strong) || a.weak != verdictOf(weak) {
		t.Errorf("%s: Strong %v, Weak %v; want %d and %d", name, a.strong, a.weak, strong, weak)
	}
}

func holdSorts(t *testing.T, name string, v api.View, busy, white, grey, black []int) {
	t.Helper()
	holdView(t, v, busy)
	w, g, b := hue.Sorts(v, busy)
	if !slices.Equal(w, white) || !slices.Equal(g, grey) || !slices.Equal(b, black) {
		t.Errorf("%s: %v, %v, %v; want %v, %v, %v", name, w, g, b, white, grey, black)
	}
}

func holdSafe(t *testing.T, name string, v api.View, number int, errno api.Errno) {
	t.Helper()
	holdView(t, v, nil)
	if n, e := hue.Safe(v); n != number || e != errno {
		t.Errorf("%s: %d, %v; want %d, %v", name, n, e, number, errno)
	}
}

// white, marked: objects in use, of generation 0. What is marked is black, or grey, if it waits.
func white(slots ...uint64) api.Object  { return api.Object{Used: true, Slots: slots} }
func marked(slots ...uint64) api.Object { return api.Object{Used: true, Live: true, Slots: slots} }

func of(objects ...api.Object) api.View { return api.View{Objects: objects} }

// rooted: a view of these objects, whose one hand has these roots.
func rooted(roots []uint64, objects ...api.Object) api.View {
	return api.View{Objects: objects, Roots: [][]uint64{roots}}
}

// waiting: the view, with these numbers in Grey.
func waiting(v api.View, grey ...int) api.View {
	v.Grey = grey
	return v
}

func TestP15_1_Examples(t *testing.T) {
	v := waiting(of(marked(2), white(), marked(2)), 3)
	holdLaws(t, "1 shows 2, and 3 does", v, nil, 1, 0)
	holdSorts(t, "1 shows 2, and 3 does", v, nil, []int{2}, []int{3}, []int{1})
	v.Objects[2].Slots = nil
	holdLaws(t, "without 3's slot", v, nil, 1, 2)
	v = waiting(of(marked(2), white(), white(2), marked(3)), 4)
	holdLaws(t, "4, 3, 2", v, nil, 1, 0)
	holdSorts(t, "4, 3, 2", v, nil, []int{2, 3}, []int{4}, []int{1})
	holdSafe(t, "another generation", rooted([]uint64{half + 1}, api.Object{Used: true, Gen: 2}), 1, api.ErrWhite)
}

func TestP15_1_NoObject(t *testing.T) {
	for _, v := range []api.View{
		{}, {Objects: []api.Object{}, Roots: [][]uint64{}, Grey: []int{}, Queue: []int{}}, {Roots: [][]uint64{nil, {}, {0, 0}}}, {Grey: []int{0, 1, -1, 2}, Free: []int{1}, Weaks: []uint64{1}},
	} {
		for _, busy := range [][]int{nil, {}, {0, 1, 1, -1}, trial.Ends()} {
			holdLaws(t, "no object", v, busy, 0, 0)
			holdSorts(t, "no object", v, busy, nil, nil, nil)
		}
		holdSafe(t, "no object", v, 0, api.OK)
	}
	holdSafe(t, "a root of no object", rooted([]uint64{0, 1}), 1, api.ErrWhite)
	holdSafe(t, "a queue of no object", api.View{Queue: []int{1}}, 1, api.ErrWhite)
}

// None in use: black, grey or white is none of them, and none shows another one; roots and the queue show them in vain. All in use:
// they are, and do.
func TestP15_1_NoneInUseAndAllInUse(t *testing.T) {
	v := waiting(of(api.Object{Live: true, Slots: []uint64{2}}, api.Object{Slots: []uint64{1}}, api.Object{Live: true, Slots: []uint64{2, 9}}), 3)
	holdSorts(t, "none in use", v, []int{1, 2}, nil, nil, nil)
	holdLaws(t, "none in use", v, nil, 0, 0)
	holdSafe(t, "none in use", v, 0, api.OK)
	v.Roots = [][]uint64{{3}}
	holdSafe(t, "none in use, and a root", v, 3, api.ErrWhite)
	v.Roots, v.Queue = nil, []int{3}
	holdSafe(t, "none in use, and a queue", v, 3, api.ErrWhite)
	for i := range v.Objects {
		v.Objects[i].Used = true
	}
	holdSorts(t, "all in use", v, nil, []int{2}, []int{3}, []int{1})
	holdLaws(t, "all in use", v, nil, 1, 0)
	holdLaws(t, "all in use, 1 busy", v, []int{1}, 0, 0)
	holdSafe(t, "all in use", v, 9, api.ErrWhite)
	v.Queue = []int{2}
	holdSafe(t, "all in use, 3 dead", v, 0, api.OK)
}

// A ring, all of one colour: nothing is wrong with it.
func TestP15_1_AllOfOneColour(t *testing.T) {
	all := []int{1, 2, 3}
	v := of(white(2, 1), white(3), white(1))
	holdSorts(t, "all white", v, nil, all, nil, nil)
	holdSorts(t, "all white, that wait", waiting(v, all...), all, all, nil, nil)
	holdLaws(t, "all white", v, nil, 0, 0)
	v = of(marked(2, 1), marked(3), marked(1))
	holdSorts(t, "all black", v, nil, nil, nil, all)
	holdLaws(t, "all black", v, nil, 0, 0)
	holdSorts(t, "all grey", waiting(v, 3, 1, 2), nil, nil, all, nil)
	holdLaws(t, "all grey", waiting(v, 3, 1, 2), nil, 0, 0)
	holdSorts(t, "all busy", v, []int{2, 3, 1}, nil, all, nil)
	holdSorts(t, "grey by both", waiting(v, 3), []int{2, 1}, nil, all, nil)
	holdLaws(t, "grey by both", waiting(v, 3), []int{2, 1}, 0, 0)
}

// Numbers in Grey and in busy: of no object, twice, in both, of a white one, of one that is out of use, in any order.
func TestP15_1_NumbersThatWait(t *testing.T) {
	v := of(marked(2), white(), api.Object{Live: true}, marked(2), marked(), api.Object{})
	bad := append([]int{0, 7, 8, half, half + 1, half + 4, -half + 4}, trial.Ends()...)
	for _, c := range []struct {
		name                string
		grey, busy          []int
		wantGrey, wantBlack []int
		strong, weak        int
	}{
		{"none", nil, nil, nil, []int{1, 4, 5}, 1, 2},
		{"in Grey", []int{4}, nil, []int{4}, []int{1, 5}, 1, 0},
		{"in busy", nil, []int{4}, []int{4}, []int{1, 5}, 1, 0},
		{"twice in Grey", []int{4, 4}, nil, []int{4}, []int{1, 5}, 1, 0},
		{"twice in busy", nil, []int{4, 4}, []int{4}, []int{1, 5}, 1, 0},
		{"in both", []int{4}, []int{4}, []int{4}, []int{1, 5}, 1, 0},
		{"one in Grey, one in busy", []int{4}, []int{1}, []int{1, 4}, []int{5}, 0, 0},
		{"falling", []int{5, 4}, []int{4, 1}, []int{1, 4, 5}, nil, 0, 0},
		{"a white one", []int{2}, []int{2}, nil, []int{1, 4, 5}, 1, 2},
		{"such as are out of use", []int{3, 6}, []int{6, 3}, nil, []int{1, 4, 5}, 1, 2},
		{"one that shows nothing", []int{5}, nil, []int{5}, []int{1, 4}, 1, 2},
		{"the first alone", []int{1}, nil, []int{1}, []int{4, 5}, 4, 0},
		{"of no object", bad, bad, nil, []int{1, 4, 5}, 1, 2},
		{"of no object, and some", slices.Concat(bad, []int{4}, bad), slices.Concat(bad, []int{1}, bad), []int{1, 4}, []int{5}, 0, 0},
	} {
		holdSorts(t, c.name, waiting(v, c.grey...), c.busy, []int{2}, c.wantGrey, c.wantBlack)
		holdLaws(t, c.name, waiting(v, c.grey...), c.busy, c.strong, c.weak)
	}
}

// What black objects show: white ones, themselves, one another in a ring; several at once; in any of their slots.
func TestP15_1_WhatBlackOnesShow(t *testing.T) {
	for _, c := range []struct {
		name         string
		v            api.View
		strong, weak int
	}{
		{"itself", of(marked(1, 1)), 0, 0},
		{"one another in a ring", of(marked(2), marked(3), marked(1)), 0, 0},
		{"a ring, of which one shows a white one", of(marked(2), marked(3, 4), marked(1), white()), 2, 4},
		{"itself and a white one", of(marked(1, 2), white()), 1, 2},
		{"white ones, the higher one first", of(white(), white(), marked(2, 1)), 3, 1},
		{"the lowest of several", of(marked(), marked(4), marked(3), white(), marked(4)), 2, 4},
		{"two black ones, the lower white one by the higher", of(marked(4), marked(3), white(), white()), 1, 3},
		{"a white one that shows itself and black ones", of(marked(2), white(2, 1, 3), marked(1)), 1, 2},
		{"a white one that shows a white one", of(marked(3), white(), white(2)), 1, 3},
		{"only grey ones", waiting(of(marked(2, 1), marked(1)), 2), 0, 0},
		{"white ones out of use", of(marked(2, 3), api.Object{}, api.Object{Live: true}), 0, 0},
		{"the last slot of many", of(marked(0, 1, 9, half, half+2, 2), white()), 1, 2},
		{"no slot", of(marked(), white()), 0, 0},
		{"an object out of use that shows a white one", of(api.Object{Live: true, Slots: []uint64{2}}, white()), 0, 0},
		{"a white one alone that shows a white one", of(white(2), white(1)), 0, 0},
	} {
		holdLaws(t, c.name, c.v, nil, c.strong, c.weak)
	}
}

// Ways to a white object from a grey one: all but the first are white.
func TestP15_1_Shelter(t *testing.T) {
	away := api.Object{Live: true, Slots: []uint64{2}}
	for _, c := range []struct {
		name string
		v    api.View
		busy []int
		weak int
	}{
		{"of one", waiting(of(marked(2), white(), marked(2)), 3), nil, 0},
		{"of one, by busy", of(marked(2), white(), marked(2)), []int{3}, 0},
		{"of two", waiting(of(marked(2), white(), white(2), marked(3)), 4), nil, 0},
		{"of four", waiting(of(marked(2), white(), white(2), white(3), white(4), marked(5)), 6), nil, 0},
		{"of four, rising", waiting(of(marked(2), white(3), white(4), white(5), white(6), white(7), white(), marked(7, 7), marked(2)), 9), nil, 0},
		{"along a ring of white ones", waiting(of(marked(2), white(3), white(4), white(2), marked(4)), 5), nil, 0},
		{"over a black one", waiting(of(marked(2), white(), marked(2), marked(3)), 4), nil, 2},
		{"over a black one that a white one shows", waiting(of(marked(2), white(), marked(2), white(3), marked(4)), 5), nil, 2},
		{"over one that is out of use", waiting(of(marked(2), white(), away, marked(3)), 4), nil, 2},
		{"from one that is out of use", waiting(of(marked(2), white(), away), 3), []int{3}, 2},
		{"from a white one", waiting(of(marked(2), white(), white(2)), 3), []int{3}, 2},
		{"over another grey one", waiting(of(marked(2), white(), marked(2), marked(3)), 3, 4), nil, 0},
		{"over a bad handle", waiting(of(marked(2), white(), white(half+2), marked(3)), 4), nil, 2},
		{"to the one behind it alone", waiting(of(marked(2), white(3), white(), marked(3)), 4), nil, 2},
		{"of two white ones, one is", waiting(of(marked(2, 3), white(), white(), marked(2)), 4), nil, 3},
		{"of two white ones, the other is", waiting(of(marked(2, 3), white(), white(), marked(3)), 4), nil, 2},
		{"both", waiting(of(marked(2, 3), white(), white(2), marked(3)), 4), nil, 0},
		{"one that isn't sheltered is not shown by a black one", waiting(of(marked(2), white(), white(), marked(2)), 4), nil, 0},
		{"of one, that is the lower one of two", of(marked(2), white(), marked(2)), []int{1}, 0},
		{"by itself", of(marked(2), white(2)), nil, 2},
		{"by one another", of(marked(2), white(3), white(2)), nil, 2},
	} {
		n, e := hue.Weak(c.v, c.busy)
		holdView(t, c.v, c.busy)
		if n != c.weak || e != verdictOf(c.weak).errno {
			t.Errorf("%s: %d, %v; want %d", c.name, n, e, c.weak)
		}
	}
	holdLaws(t, "grey, and no black one", of(marked(2), white()), []int{1}, 0, 0)
}

// badHandles: of the objects of fourWith: index 0 with a generation, of another generation, of an object out of use (of its own
// generation, and of others), of a number past the objects.
func badHandles() []uint64 {
	return []uint64{half, 5 * half, 1, half + 1, 3*half + 1, 3, 7*half + 3, 6*half + 3, 5, 2*half + 5, half - 1, half / 2, half + 2, half + 4, math.MaxUint64, 1 << 63, (half - 1) * half}
}

// fourWith: three objects in use and one, number 3, that isn't; object 1 has these slots.
func fourWith(slots ...uint64) api.View {
	return of(api.Object{Used: true, Live: true, Gen: 2, Slots: slots}, white(), api.Object{Gen: 7}, white())
}

// A handle that isn't good shows nothing, in the slot of a black, a grey, a white one.
func TestP15_1_BadHandlesShowNothing(t *testing.T) {
	for _, h := range append(badHandles(), 0) {
		holdLaws(t, "in a black one", fourWith(h), nil, 0, 0)
		v := fourWith(2, h)
		holdLaws(t, "behind a good one", v, nil, 1, 2)
		v.Objects = append(v.Objects, marked(h, h))
		if h == 5 {
			continue // there is an object 5 now
		}
		holdLaws(t, "in a grey one", v, []int{5}, 1, 2)
		v.Objects[4].Slots, v.Objects[3].Slots = []uint64{4}, []uint64{h}
		holdLaws(t, "in a white one on the way", v, []int{5}, 1, 2)
		v.Objects[3].Slots = []uint64{h, 2}
		holdLaws(t, "ahead of a good one there", v, []int{5}, 1, 0)
	}
}

// A handle that is neither 0 nor good, in a root and in a slot of a live object: Safe tells its index.
func TestP15_1_BadHandlesAreNotSafe(t *testing.T) {
	for _, h := range badHandles() {
		index := int(h % half)
		v := fourWith()
		v.Roots = [][]uint64{{h}}
		holdSafe(t, "in a root", v, index, api.ErrWhite)
		v.Roots = [][]uint64{{0, 2*half + 1}, nil, {2, 0, h, 2}}
		holdSafe(t, "in a later root", v, index, api.ErrWhite)
		v = fourWith(2, 0, h)
		v.Roots = [][]uint64{{2*half + 1}}
		holdSafe(t, "in a slot of a root's object", v, index, api.ErrWhite)
		v.Roots, v.Queue = nil, []int{1}
		holdSafe(t, "in a slot of the queue's object", v, index, api.ErrWhite)
		v = fourWith(2)
		v.Objects[1].Slots, v.Objects[3].Slots = []uint64{4}, []uint64{4, h}
		v.Roots = [][]uint64{{2*half + 1}}
		holdSafe(t, "at a way's end", v, index, api.ErrWhite)
		v.Objects[1].Slots = nil
		holdSafe(t, "in a slot of one that isn't live", v, 0, api.OK)
		v.Objects[3].Used = false
		holdSafe(t, "in a slot of one that isn't in use", v, 0, api.OK)
		v.Weaks, v.Acks = []uint64{h}, []uint64{h}
		holdSafe(t, "in a weak word", v, 0, api.OK)
	}
	v := fourWith(0, 2*half+1, 2, 4, 0)
	v.Roots, v.Queue = [][]uint64{{0, 2, 4}, {2*half + 1}}, []int{1, 2, 4, 1}
	holdSafe(t, "good ones and noughts", v, 0, api.OK)
}

// The queue's numbers: of no object, of one that isn't in use. (0 is one of no object.)
func TestP15_1_QueueIsNotSafe(t *testing.T) {
	for _, number := range append([]int{0, 3, 5, 6, half, half + 1, half + 2, -half + 2}, trial.Ends()...) {
		v := fourWith(0)
		v.Queue = []int{number}
		holdSafe(t, "alone", v, number, api.ErrWhite)
		v.Queue = []int{1, 2, 4, 2, number, 1}
		holdSafe(t, "behind others", v, number, api.ErrWhite)
	}
	v := fourWith(0)
	v.Queue = []int{4, 1, 2, 1}
	holdSafe(t, "all in use", v, 0, api.OK)
}

// Several are wrong: roots come ahead of the queue, that ahead of slots; hand by hand and root by root, in the queue's order, by
// number and slot.
func TestP15_1_WhatComesFirst(t *testing.T) {
	v := of(white(0, 21, 22), white(23), api.Object{Slots: []uint64{24}}, white(2, 25), white(26))
	v.Roots, v.Queue = [][]uint64{{4, 11}, {12}, {13}}, []int{1, 3, 9, 0}
	holdSafe(t, "all of it", v, 11, api.ErrWhite)
	v.Roots[0][1] = 0
	holdSafe(t, "of the next hand", v, 12, api.ErrWhite)
	v.Roots = [][]uint64{{}, {4, 1, 15, 14}, {13}}
	holdSafe(t, "the first of a hand's", v, 15, api.ErrWhite)
	v.Roots = [][]uint64{{4}}
	holdSafe(t, "the queue", v, 3, api.ErrWhite)
	v.Queue = []int{1, 9, 3, 0}
	holdSafe(t, "the queue in its order", v, 9, api.ErrWhite)
	v.Queue = []int{0, 9}
	holdSafe(t, "0 in the queue", v, 0, api.ErrWhite)
	v.Queue = []int{1}
	holdSafe(t, "slots", v, 21, api.ErrWhite)
	v.Objects[0].Slots = []uint64{5, 4, 0}
	holdSafe(t, "the next live object's", v, 23, api.ErrWhite)
	v.Objects[1].Slots = []uint64{5, 1, 0}
	holdSafe(t, "that isn't the next one in use", v, 25, api.ErrWhite)
	v.Queue, v.Roots, v.Objects[3].Slots = nil, [][]uint64{{2}, {5}}, []uint64{27}
	v.Objects[0].Slots = []uint64{0, 28, 29}
	holdSafe(t, "by number, not by the way to it", v, 28, api.ErrWhite)
	v.Objects[0].Slots = []uint64{29, 28}
	holdSafe(t, "by slot", v, 29, api.ErrWhite)
	v.Objects[0].Slots = []uint64{0, 3 * half, 28}
	holdSafe(t, "index 0, and another one behind it", v, 0, api.ErrWhite)
}

// Of the generation 2^32 - 1 a handle is good; of 2^32 on none is, whatever its upper half. Such an object in the queue is in use:
// it is none that is wrong there; but it isn't live, and its slots aren't looked at.
func TestP15_1_GreatGenerations(t *testing.T) {
	for _, gen := range trial.Gens() {
		fits := gen < half
		own := gen%half*half + 2
		v := of(marked(own), api.Object{Used: true, Gen: gen, Slots: []uint64{9}})
		number, told, behind := 0, verdict{2, api.ErrWhite}, verdict{}
		if fits {
			number, told, behind = 1, verdict{}, verdict{9, api.ErrWhite}
		}
		holdLaws(t, "shown by a black one", v, nil, number, 2*number)
		holdSorts(t, "whatever its generation", v, nil, []int{2}, nil, []int{1})
		v.Queue = []int{2}
		holdSafe(t, "in the queue", v, behind.number, behind.errno)
		v.Queue, v.Roots, v.Objects[1].Slots = nil, [][]uint64{{own}}, nil
		holdSafe(t, "in a root", v, told.number, told.errno)
		v.Roots = [][]uint64{{1}}
		holdSafe(t, "in a slot", v, told.number, told.errno)
		// No handle shows it: but grey it is, and shelters what it shows; and black, and shows it.
		v = of(marked(3), api.Object{Used: true, Live: true, Gen: gen, Slots: []uint64{3}}, white())
		holdLaws(t, "grey", v, []int{2}, 1, 0)
		holdLaws(t, "black", v, []int{1}, 2, 0)
	}
}

// What the words don't name makes no difference: to the laws all but Used, Live, Gen, Slots, Grey; to Safe the colours, and who waits.
func TestP15_1_LooksAtNothingElse(t *testing.T) {
	from := trial.Source(1)
	for range 5000 {
		v, busy, other := from.View(6), from.Numbers(6), from.View(6)
		o := trial.RoomyView(v)
		o.Phase, o.Colour, o.Round, o.Acks, o.Weaks, o.Free, o.Counts = other.Phase, other.Colour, other.Round, other.Acks, other.Weaks, other.Free, other.Counts
		for i := range min(len(v.Objects), len(other.Objects)) {
			x, y := &o.Objects[i], other.Objects[i]
			x.Final, x.Taken, x.Age, x.Link, x.Next = y.Final, y.Taken, y.Age, y.Link, y.Next
		}
		if got, want := answersOf(o, busy), answersOf(v, busy); !got.same(want) {
			t.Fatalf("%+v and %+v: %+v and %+v", o, v, got, want)
		}
		laws := answersOf(v, busy)
		o.Roots, o.Queue = other.Roots, other.Queue
		if got := answersOf(o, busy); got.strong != laws.strong || got.weak != laws.weak || !slices.Equal(got.white, laws.white) {
			t.Fatalf("%+v and %+v: %+v and %+v", o, v, got, laws)
		}
		o.Roots, o.Queue, o.Grey = v.Roots, v.Queue, other.Grey
		for i := range o.Objects {
			o.Objects[i].Live = !o.Objects[i].Live
		}
		if got := answersOf(o, nil); got.safe != laws.safe {
			t.Fatalf("%+v and %+v: %+v and %+v", o, v, got, laws)
		}
	}
}

// Many objects: in one row, of which each shows the next one; all shown by one; all waiting. None takes long, and none is too deep.
func TestP15_1_ManyObjects(t *testing.T) {
	const many = 300000
	row := rooted([]uint64{many})
	for i := range many {
		row.Objects = append(row.Objects, white(uint64(i)))
	}
	row.Objects = append(row.Objects, marked(1))
	if n, e := hue.Weak(row, nil); n != 1 || e != api.ErrWhite {
		t.Error("a row that nobody shelters:", n, e)
	}
	row.Objects[many-1].Live = true
	if n, e := hue.Weak(row, []int{many}); n != 0 || e != api.OK {
		t.Error("a row to whose end it is sheltered:", n, e)
	}
	if n, e := hue.Strong(row, []int{many}); n != many+1 || e != api.ErrWhite {
		t.Error("a row whose last one a black one shows:", n, e)
	}
	if n, e := hue.Safe(row); n != 0 || e != api.OK {
		t.Error("a row that is safe:", n, e)
	}
	row.Objects[0].Slots = []uint64{many + 2}
	if n, e := hue.Safe(row); n != many+2 || e != api.ErrWhite {
		t.Error("a row whose last one is not safe:", n, e)
	}
	all := make([]int, many)
	for i := range all {
		all[i] = many - i
		row.Objects[i].Live = true
	}
	row.Grey = all
	if w, g, b := hue.Sorts(row, all); len(w) != 0 || len(g) != many || !slices.IsSorted(g) || !slices.Equal(b, []int{many + 1}) {
		t.Error("all of a row wait:", len(w), len(g), len(b))
	}
}
