package hue_test

import (
	"iter"
	"slices"
	"testing"

	"midden/api"
	"midden/graph"
	"midden/hue"
	"midden/trial"
)

// A seen is a view, and who is busy.
type seen struct {
	v    api.View
	busy []int
}

// The ways in which an object of smallViews may look.
const (
	looksWhite = iota
	looksBlack
	looksGrey
	looksBusy
	looksAway // out of use, in Grey and busy
	looksHalf // white, in Grey and busy
	waysToLook
)

// smallViews: all ways in which three objects may show one another, each in all ways to look; slot k is 0 or shows object k + 1.
func smallViews() iter.Seq[seen] {
	return func(yield func(seen) bool) {
		for looks := range trial.Lists(waysToLook, 3) {
			for shows := range 1 << 9 {
				var s seen
				for i := range 3 {
					s.add(looks[i], []uint64{uint64(shows >> (3 * i) & 1), uint64(shows>>(3*i+1)&1) * 2, uint64(shows>>(3*i+2)&1) * 3})
				}
				if !yield(s) {
					return
				}
			}
		}
	}
}

func (s *seen) add(look int, slots []uint64) {
	o := api.Object{Used: look != looksAway, Live: look != looksWhite && look != looksHalf, Slots: slots}
	s.v.Objects = append(s.v.Objects, o)
	number := len(s.v.Objects)
	if look == looksGrey || look == looksAway || look == looksHalf {
		s.v.Grey = append(s.v.Grey, number)
	}
	if look == looksBusy || look == looksAway || look == looksHalf {
		s.busy = append(s.busy, number)
	}
}

// isWay: the first one is grey, all others are white, each shows the next one.
func isWay(s seen, numbers []int) bool {
	for i, number := range numbers {
		switch {
		case i == 0 && !isGrey(s.v, s.busy, number), i > 0 && !isWhite(s.v.Objects[number-1]):
			return false
		case i > 0 && !slices.Contains(whitesOf(s.v, numbers[i-1]), number):
			return false
		}
	}
	return true
}

// shelteredByLists: is there a way to it, of all lists of numbers that end there?
func shelteredByLists(s seen, to int) bool {
	n := len(s.v.Objects)
	for length := 1; length < n; length++ {
		for list := range trial.Lists(n, length) {
			for i := range list {
				list[i]++
			}
			if isWay(s, append(list, to)) {
				return true
			}
		}
	}
	return false
}

func TestP15_1_EverySmallView(t *testing.T) {
	strong, weak, both := 0, 0, 0
	for s := range smallViews() {
		got, want := answersOf(s.v, s.busy), wanted(s.v, s.busy)
		if !got.same(want) {
			t.Fatalf("%+v: %+v; want %+v", s, got, want)
		}
		switch {
		case got.weak.errno != api.OK:
			weak++
		case got.strong.errno != api.OK:
			strong++
		default:
			both++
		}
	}
	if min(strong, weak, both) < 2000 {
		t.Errorf("Weak alone OK %d, neither %d, both %d", strong, weak, both)
	}
}

// By all lists of numbers a white object has a way from a grey one, or has none.
func TestP15_1_WaysByAllLists(t *testing.T) {
	from := trial.Source(12)
	short, long, none := 0, 0, 0
	for range 10000 {
		s := crowd(&from)
		lowest := 0
		_, _, black := sorts(s.v, s.busy)
		for i, o := range s.v.Objects {
			if !isWhite(o) {
				continue
			}
			has := shelteredByLists(s, i+1)
			isShown := slices.ContainsFunc(black, func(number int) bool { return slices.Contains(whitesOf(s.v, number), i+1) })
			switch {
			case !has && isShown && lowest == 0:
				lowest = i + 1
				none++
			case has && isShown && shownByGrey(s, i+1):
				short++
			case has && isShown:
				long++
			}
		}
		if n, e := hue.Weak(s.v, s.busy); verdictBy(n, e) != verdictOf(lowest) {
			t.Fatalf("%+v: %d, %v; want %d", s, n, e, lowest)
		}
	}
	if min(short, long, none) < 100 {
		t.Errorf("sheltered by one %d, by several %d, not at all %d", short, long, none)
	}
}

func shownByGrey(s seen, number int) bool {
	_, grey, _ := sorts(s.v, s.busy)
	return slices.ContainsFunc(grey, func(g int) bool { return slices.Contains(whitesOf(s.v, g), number) })
}

// crowd: five objects, most of them white, that show one another at random.
func crowd(from *trial.Source) seen {
	var s seen
	looks := []int{looksWhite, looksWhite, looksWhite, looksWhite, looksBlack, looksBlack, looksGrey, looksBusy}
	for range 5 {
		slots := make([]uint64, from.Below(5))
		for i := range slots {
			slots[i] = uint64(from.Below(7))
		}
		look := looks[from.Below(len(looks))]
		if from.Below(12) == 0 {
			look = looksAway
		}
		s.add(look, slots)
	}
	return s
}

// anyViews: so many, some of few objects that show one another often; and who is busy.
func anyViews(seed uint64, many int) iter.Seq[seen] {
	return func(yield func(seen) bool) {
		from := trial.Source(seed)
		for i := range many {
			s := seen{from.View(8), from.Numbers(8)}
			if i%2 == 0 {
				s = crowd(&from)
				s.v.Roots = [][]uint64{{uint64(from.Below(6))}, {uint64(from.Below(6)), uint64(from.Below(8))}}
				s.v.Queue = from.Numbers(5)
			}
			if !yield(s) {
				return
			}
		}
	}
}

func TestP15_1_AnyViews(t *testing.T) {
	told := map[api.Errno]int{}
	for s := range anyViews(2, 40000) {
		holdView(t, s.v, s.busy)
		_, e := hue.Safe(s.v)
		told[e]++
	}
	if len(told) != 2 || min(told[api.OK], told[api.ErrWhite]) < 3000 {
		t.Errorf("Safe: %v", told)
	}
}

// Where Strong is OK, so is Weak; and what Sorts tells holds each object in use once, rising.
func TestP15_2_StrongAndSorts(t *testing.T) {
	strong, weak := 0, 0
	hold := func(s seen) {
		_, e := hue.Strong(s.v, s.busy)
		_, f := hue.Weak(s.v, s.busy)
		switch {
		case e == api.OK && f != api.OK:
			t.Fatalf("%+v: Strong is OK, Weak tells %v", s, f)
		case e == api.OK:
			strong++
		case f == api.OK:
			weak++
		}
		w, g, b := hue.Sorts(s.v, s.busy)
		if !slices.IsSorted(w) || !slices.IsSorted(g) || !slices.IsSorted(b) {
			t.Fatalf("%+v: %v, %v, %v", s, w, g, b)
		}
		var used []int
		for i, o := range s.v.Objects {
			if o.Used {
				used = append(used, i+1)
			}
		}
		all := slices.Concat(w, g, b)
		if slices.Sort(all); !slices.Equal(all, used) {
			t.Fatalf("%+v: %v, %v, %v; in use are %v", s, w, g, b, used)
		}
	}
	for s := range smallViews() {
		hold(s)
	}
	for s := range anyViews(3, 40000) {
		hold(s)
	}
	if min(strong, weak) < 3000 {
		t.Errorf("Strong OK %d, Weak alone %d", strong, weak)
	}
}

// startsWhite: is a handle in the roots a good one of a white object, or a number in the queue that of a white one?
func startsWhite(v api.View) bool {
	for i, isShown := range trial.ShownBy(v, slices.Concat(v.Roots...)) {
		if isWhite(v.Objects[i]) && (isShown || slices.Contains(v.Queue, i+1)) {
			return true
		}
	}
	return false
}

// holdPurpose fails, if Weak is OK, none is grey, no root and no number of the queue is a white one's, and yet a live one is
// white. It tells whether there was something to hold: live objects and white ones.
func holdPurpose(t *testing.T, s seen) bool {
	t.Helper()
	w, g, _ := hue.Sorts(s.v, s.busy)
	if _, e := hue.Weak(s.v, s.busy); e != api.OK || len(g) > 0 || startsWhite(s.v) {
		return false
	}
	live := graph.Live(s.v)
	for _, number := range w {
		if live[number-1] {
			t.Fatalf("%+v: object %d is white and live", s, number)
		}
	}
	return len(w) > 0 && slices.Contains(live, true)
}

func TestP15_3_NoLiveObjectIsWhite(t *testing.T) {
	held := 0
	for s := range smallViews() {
		for _, start := range []struct {
			roots [][]uint64
			queue []int
		}{{[][]uint64{{1}}, nil}, {[][]uint64{{0}, {9, 2}}, []int{3, 0}}, {nil, []int{2}}} {
			s.v.Roots, s.v.Queue = start.roots, start.queue
			if holdPurpose(t, s) {
				held++
			}
		}
	}
	for s := range anyViews(4, 40000) {
		if holdPurpose(t, s) {
			held++
		}
	}
	if held < 3000 {
		t.Errorf("%d views with live objects and white ones", held)
	}
}

// becomes: the same, with another object in this one's place, in memory of its own.
func (s seen) becomes(number int, turn func(o *api.Object)) seen {
	s.v.Objects = slices.Clone(s.v.Objects)
	o := &s.v.Objects[number-1]
	o.Slots = slices.Clone(o.Slots)
	turn(o)
	return s
}

// A kept counts how often Strong was OK and stayed so, and how often Weak did, while Strong was not.
type kept struct{ strong, weak int }

// hold fails, if a law was OK and isn't any more; of Strong it is asked only where it is promised.
func (k *kept) hold(t *testing.T, before, behind seen, asked string, number int) {
	t.Helper()
	was, is := answersOf(before.v, before.busy), answersOf(behind.v, behind.busy)
	if was.weak.errno == api.OK && is.weak != (verdict{}) || was.strong.errno == api.OK && is.strong != (verdict{}) && asked != byBarrier {
		t.Fatalf("%s, object %d: of %+v: %+v; of %+v: %+v", asked, number, before, was, behind, is)
	}
	switch {
	case was.strong.errno == api.OK:
		k.strong++
	case was.weak.errno == api.OK:
		k.weak++
	}
}

const (
	byShading = "shading"
	byLooking = "looking at"
	byBarrier = "the barrier"
)

func (k *kept) holdShading(t *testing.T, s seen) {
	t.Helper()
	w, _, _ := hue.Sorts(s.v, s.busy)
	for _, number := range w {
		behind := s.becomes(number, func(o *api.Object) { o.Live = true })
		behind.busy = append(slices.Clone(s.busy), number)
		if _, g, _ := hue.Sorts(behind.v, behind.busy); !slices.Contains(g, number) {
			t.Fatalf("%+v: object %d isn't grey", behind, number)
		}
		k.hold(t, s, behind, byShading, number)
	}
}

func TestP15_4_Shading(t *testing.T) {
	var k kept
	for s := range smallViews() {
		k.holdShading(t, s)
	}
	for s := range anyViews(5, 30000) {
		k.holdShading(t, s)
	}
	if min(k.strong, k.weak) < 4000 {
		t.Errorf("%+v", k)
	}
}

func without(list []int, number int) []int {
	return slices.DeleteFunc(slices.Clone(list), func(n int) bool { return n == number })
}

// holdLookingAt: whether a grey object that shows a white one becomes black isn't asked.
func (k *kept) holdLookingAt(t *testing.T, s seen) {
	t.Helper()
	_, g, _ := hue.Sorts(s.v, s.busy)
	for _, number := range g {
		if len(whitesOf(s.v, number)) > 0 {
			continue
		}
		behind := s
		behind.v.Grey, behind.busy = without(s.v.Grey, number), without(s.busy, number)
		if _, _, b := hue.Sorts(behind.v, behind.busy); !slices.Contains(b, number) {
			t.Fatalf("%+v: object %d isn't black", behind, number)
		}
		k.hold(t, s, behind, byLooking, number)
	}
}

func TestP15_5_LookingAt(t *testing.T) {
	var k kept
	for s := range smallViews() {
		k.holdLookingAt(t, s)
	}
	for s := range anyViews(6, 80000) {
		k.holdLookingAt(t, s)
	}
	if min(k.strong, k.weak) < 500 {
		t.Errorf("%+v", k)
	}
	// A grey one that does show a white one is no such one: here both laws are broken by it.
	v := waiting(of(marked(2), white()), 1)
	holdLaws(t, "grey", v, nil, 0, 0)
	holdLaws(t, "black", waiting(v), nil, 1, 2)
}

// showsWhite: is it a good handle of a white object?
func showsWhite(v api.View, h uint64) bool {
	number := trial.Shown(v, h)
	return number > 0 && isWhite(v.Objects[number-1])
}

// holdBarrier: one slot is given each of these handles.
func (k *kept) holdBarrier(t *testing.T, s seen, number, slot int, handles []uint64) {
	t.Helper()
	if showsWhite(s.v, s.v.Objects[number-1].Slots[slot]) {
		return
	}
	for _, h := range handles {
		if !showsWhite(s.v, h) {
			k.hold(t, s, s.becomes(number, func(o *api.Object) { o.Slots[slot] = h }), byBarrier, number)
		}
	}
}

func TestP15_6_Barrier(t *testing.T) {
	var k kept
	turn := 0
	for s := range smallViews() {
		turn++
		k.holdBarrier(t, s, turn%3+1, turn/3%3, []uint64{0, 1, 2, 3, 4, half + 1, half})
	}
	from := trial.Source(8)
	for s := range anyViews(7, 20000) {
		for i, o := range s.v.Objects {
			for slot := range o.Slots {
				k.holdBarrier(t, s, i+1, slot, []uint64{0, from.Handle(s.v.Objects), from.Handle(s.v.Objects)})
			}
		}
	}
	if min(k.strong, k.weak) < 5000 {
		t.Errorf("%+v", k)
	}
	// Without the barrier: what the slot held was a white one's, and then what it holds is.
	v := waiting(of(marked(2), white(), marked(2)), 3)
	holdLaws(t, "3 shows 2", v, nil, 1, 0)
	v.Objects[2].Slots[0] = 0
	holdLaws(t, "3 shows it no more", v, nil, 1, 2)
	v = of(marked(0), white())
	holdLaws(t, "nothing", v, nil, 0, 0)
	v.Objects[0].Slots[0] = 2
	holdLaws(t, "1 shows 2", v, nil, 1, 2)
}
