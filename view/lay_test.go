package view_test

import (
	"fmt"
	"math"
	"slices"
	"testing"

	"midden/api"
	"midden/trial"
	"midden/view"
)

// By the words of the chapter alone: a view is taken just if it was seen of some words. All lists of up to three numbers, in
// and out of range, with all links of two objects.
func TestP13_1_LayTakesWhatIsSeenAlone(t *testing.T) {
	sh := api.Shape{Objects: 2, Hands: 1, Roots: 1}
	wasSeen := map[string]bool{}
	key := func(v api.View) string {
		return fmt.Sprint(links(v), nexts(v), v.Free, "|", v.Grey, "|", v.Queue)
	}
	for list := range trial.Lists(4, 7) {
		words := make([]uint64, trial.SizeOf(sh))
		for i, at := range []int{1, 2, 3, 11, 14, 12, 15} {
			words[at] = uint64(list[i])
		}
		v, _ := view.Look(sh, words)
		wasSeen[key(v)] = true
	}
	taken := 0
	numbers := []int{-1, 0, 1, 2, 3, 1<<32 + 1}
	for on := range trial.Lists(4, 2) {
		for length := range 4 {
			for picks := range trial.Lists(len(numbers), length) {
				list := make([]int, length)
				for i, p := range picks {
					list[i] = numbers[p]
				}
				for which := range 3 {
					v := seen(sh, make([]uint64, trial.SizeOf(sh)))
					for i, n := range on {
						v.Objects[i].Link, v.Objects[i].Next = uint64(n), uint64(n)
					}
					*[]*[]int{&v.Free, &v.Grey, &v.Queue}[which] = list
					words, e := view.Lay(sh, v)
					if (e == api.OK) != wasSeen[key(v)] || (e != api.OK) != (e == api.ErrSound && len(words) == 0) {
						t.Fatalf("%+v: %v, %d; seen: %v", v, words, e, wasSeen[key(v)])
					}
					holdLay(t, sh, v)
					if e == api.OK {
						taken++
					}
				}
			}
		}
	}
	if taken < 100 {
		t.Errorf("%d were taken", taken)
	}
}

// One of all that a view has is turned; now and then it can still be seen.
func (s *source) turned(sh api.Shape, v api.View) api.View {
	v = trial.RoomyView(v)
	o := &v.Objects[s.Below(len(v.Objects))]
	switch s.Below(18) {
	case 0:
		v.Phase = []int{0, 1, 4, 5, 7, 8, 9, s.End(), 1 << 32, 1<<32 + 1}[s.Below(10)]
	case 1:
		v.Colour = []int{0, 1, 2, 3, s.End(), 1 << 32, 1<<32 + 1}[s.Below(7)]
	case 2:
		v.Round = []uint64{0, 1<<56 - 1, 1 << 56, 1<<56 + 1, math.MaxUint64, s.Any() >> 8}[s.Below(6)]
	case 3:
		v.Acks = lengthened(s, v.Acks)
	case 4:
		v.Roots = lengthened(s, v.Roots)
	case 5:
		n := s.Below(len(v.Roots))
		v.Roots[n] = lengthened(s, v.Roots[n])
	case 6:
		v.Weaks = lengthened(s, v.Weaks)
	case 7:
		v.Objects = lengthened(s, v.Objects)
	case 8:
		o.Slots = lengthened(s, o.Slots)
	case 9:
		o.Age = []int{0, 255, 256, -1, s.End(), 1 << 32}[s.Below(6)]
	case 10:
		o.Gen = []uint64{0, half - 1, half, half + 1, math.MaxUint64}[s.Below(5)]
	case 11:
		o.Used, o.Live, o.Final, o.Taken = s.Below(2) == 0, s.Below(2) == 0, s.Below(2) == 0, s.Below(2) == 0
	case 12:
		o.Link = s.One(sh)
	case 13:
		o.Next = s.One(sh)
	case 14:
		v.Free = s.turnedList(sh, v.Free)
	case 15:
		v.Grey = s.turnedList(sh, v.Grey)
	case 16:
		v.Queue = s.turnedList(sh, v.Queue)
	case 17:
		v.Counts[s.Below(4)] = s.Any()
	}
	return v
}

// lengthened: one more or one less, or none at all.
func lengthened[E any](s *source, list []E) []E {
	switch s.Below(3) {
	case 0:
		return list[:max(0, len(list)-1)]
	case 1:
		var more E
		return append(slices.Clone(list), more)
	}
	return nil
}

func (s *source) turnedList(sh api.Shape, list []int) []int {
	out := slices.Clone(list)
	switch s.Below(5) {
	case 0:
		return append(out, s.Below(sh.Objects+2))
	case 1:
		return out[:max(0, len(out)-1)]
	case 2:
		return nil
	case 3:
		return s.shuffled(out)
	}
	if len(out) > 0 {
		out[s.Below(len(out))] = []int{s.Below(sh.Objects + 2), s.End(), 1<<32 + 1, 1<<32 + out[0]}[s.Below(4)]
	}
	return out
}

func TestP13_1_LayOfAnyView(t *testing.T) {
	from := newSource(11)
	taken, refused := 0, 0
	for range 40000 {
		sh := from.Shape()
		v := seen(sh, from.Words(sh))
		if from.Below(2) == 0 {
			v = seen(sh, from.sound(sh))
		}
		if holdLay(t, sh, from.turned(sh, v)) {
			taken++
		} else {
			refused++
		}
	}
	if taken < 5000 || refused < 5000 {
		t.Errorf("%d views were taken, %d refused", taken, refused)
	}
}

// A shape that is right but not the view's: as many words, or another number of them.
func TestP13_1_LayOfAnotherShape(t *testing.T) {
	for _, sh := range trial.RightShapes() {
		for _, other := range trial.RightShapes() {
			words, _ := laid(sh, seen(sh, newSource(1).Words(sh)))
			if taken := holdLay(t, other, seen(sh, words)); taken != (sh == other) {
				t.Errorf("a view of %+v as one of %+v: %v", sh, other, taken)
			}
		}
	}
	v := seen(api.Shape{Objects: 1, Slots: 1, Hands: 1, Roots: 1, Weaks: 2}, make([]uint64, 16))
	holdLay(t, api.Shape{Objects: 1, Slots: 2, Hands: 1, Roots: 1, Weaks: 1}, v)
	holdLay(t, api.Shape{Objects: 1, Slots: 1, Hands: 1, Roots: 2, Weaks: 1}, v)
	for _, sh := range trial.RightShapes() {
		holdLay(t, sh, api.View{})
		holdLay(t, sh, api.View{Roots: make([][]uint64, sh.Hands), Objects: make([]api.Object, sh.Objects)})
	}
}

// A turn of a view of the small shape (a hand with two roots, a weak word, two objects with a slot), and whether it can
// still be seen.
type viewTurn struct {
	name string
	by   func(v *api.View)
	ok   bool
}

func viewTurns() []viewTurn {
	return []viewTurn{
		{"nothing", func(v *api.View) {}, true},
		{"Phase -1", func(v *api.View) { v.Phase = -1 }, false},
		{"Phase 4", func(v *api.View) { v.Phase = 4 }, true},
		{"Phase 5, by hand", func(v *api.View) { v.Phase = 5 }, true},
		{"Phase 7, by hand", func(v *api.View) { v.Phase = 7 }, true},
		{"Phase 8", func(v *api.View) { v.Phase = 8 }, false},
		{"Phase 8 with the colour 1", func(v *api.View) { v.Phase, v.Colour = 8, 1 }, false},
		{"Phase 256", func(v *api.View) { v.Phase = 256 }, false},
		{"Phase 16", func(v *api.View) { v.Phase = 16 }, false},
		{"Phase at an end", func(v *api.View) { v.Phase = math.MinInt }, false},
		{"Phase at the other end", func(v *api.View) { v.Phase = math.MaxInt }, false},
		{"Colour 1", func(v *api.View) { v.Colour = 1 }, true},
		{"Colour 2", func(v *api.View) { v.Colour = 2 }, false},
		{"Colour -1", func(v *api.View) { v.Colour = -1 }, false},
		{"Colour at an end", func(v *api.View) { v.Colour = math.MinInt }, false},
		{"Colour at the other end", func(v *api.View) { v.Colour = math.MaxInt }, false},
		{"the greatest Round", func(v *api.View) { v.Round = 1<<56 - 1 }, true},
		{"one more", func(v *api.View) { v.Round = 1 << 56 }, false},
		{"the greatest number as Round", func(v *api.View) { v.Round = math.MaxUint64 }, false},
		{"no ack", func(v *api.View) { v.Acks = nil }, false},
		{"two acks", func(v *api.View) { v.Acks = []uint64{0, 0} }, false},
		{"no hand's roots", func(v *api.View) { v.Roots = nil }, false},
		{"an empty list of roots", func(v *api.View) { v.Roots = [][]uint64{} }, false},
		{"two hands' roots", func(v *api.View) { v.Roots = append(v.Roots, []uint64{0, 0}) }, false},
		{"a second hand without roots", func(v *api.View) { v.Roots = append(v.Roots, nil) }, false},
		{"no root", func(v *api.View) { v.Roots[0] = nil }, false},
		{"one root", func(v *api.View) { v.Roots[0] = []uint64{0} }, false},
		{"three roots", func(v *api.View) { v.Roots[0] = []uint64{0, 0, 0} }, false},
		{"no weak word", func(v *api.View) { v.Weaks = nil }, false},
		{"two weak words", func(v *api.View) { v.Weaks = []uint64{0, 0} }, false},
		{"no object", func(v *api.View) { v.Objects, v.Free = nil, nil }, false},
		{"one object", func(v *api.View) { v.Objects, v.Free = v.Objects[:1], []int{1} }, false},
		{"three objects", func(v *api.View) { v.Objects = append(v.Objects, api.Object{Live: true, Slots: []uint64{0}}) }, false},
		{"no slot", func(v *api.View) { v.Objects[1].Slots = nil }, false},
		{"two slots", func(v *api.View) { v.Objects[0].Slots = []uint64{0, 0} }, false},
		{"Age 255", func(v *api.View) { v.Objects[0].Age = 255 }, true},
		{"Age 256", func(v *api.View) { v.Objects[0].Age = 256 }, false},
		{"Age -1", func(v *api.View) { v.Objects[1].Age = -1 }, false},
		{"the greatest Gen", func(v *api.View) { v.Objects[1].Gen = half - 1 }, true},
		{"one more in Gen", func(v *api.View) { v.Objects[1].Gen = half }, false},
		{"all of a head", func(v *api.View) {
			v.Objects[0] = api.Object{Used: true, Final: true, Taken: true, Age: 7, Gen: 5, Link: half + 2, Next: math.MaxUint64, Slots: []uint64{9}}
		}, true},
		{"one that is not Live", func(v *api.View) { v.Objects[1].Live = false }, true},
		{"Free empty", func(v *api.View) { v.Free = nil }, true},
		{"Free 1", func(v *api.View) { v.Free = []int{1} }, false},
		{"Free 2", func(v *api.View) { v.Free = []int{2} }, true},
		{"Free 2 1", func(v *api.View) { v.Free = []int{2, 1} }, false},
		{"Free 2 1, with such links", func(v *api.View) { v.Free, v.Objects[0].Link, v.Objects[1].Link = []int{2, 1}, 0, 1 }, true},
		{"Free 2 1, in a ring", func(v *api.View) { v.Free, v.Objects[1].Link = []int{2, 1}, 1 }, true},
		{"Free 1 2 1, in a ring", func(v *api.View) { v.Free, v.Objects[1].Link = []int{1, 2, 1}, 1 }, false},
		{"Free 1 2 3, past the objects", func(v *api.View) { v.Free, v.Objects[1].Link = []int{1, 2, 3}, 3 }, false},
		{"Free 1 2, with 3 behind it", func(v *api.View) { v.Objects[1].Link = 3 }, true},
		{"Free 1, to itself", func(v *api.View) { v.Free, v.Objects[0].Link = []int{1}, 1 }, true},
		{"Free 1 1", func(v *api.View) { v.Free, v.Objects[0].Link = []int{1, 1}, 1 }, false},
		{"Free 0", func(v *api.View) { v.Free = []int{0} }, false},
		{"Free 3", func(v *api.View) { v.Free = []int{3} }, false},
		{"Free -1", func(v *api.View) { v.Free = []int{-1} }, false},
		{"Free at an end", func(v *api.View) { v.Free = []int{math.MinInt} }, false},
		{"Free 2^32 + 1", func(v *api.View) { v.Free = []int{1<<32 + 1, 2} }, false},
		{"Free 1 2^32 + 2", func(v *api.View) { v.Free = []int{1, 1<<32 + 2} }, false},
		{"Free 0 1 2", func(v *api.View) { v.Free = []int{0, 1, 2} }, false},
		{"Free 1 2 0", func(v *api.View) { v.Free = []int{1, 2, 0} }, false},
		{"Grey 2, as Free", func(v *api.View) { v.Grey = []int{2} }, true},
		{"Grey 1 2, as Free", func(v *api.View) { v.Grey = []int{1, 2} }, true},
		{"Grey 1", func(v *api.View) { v.Grey = []int{1} }, false},
		{"Grey 3", func(v *api.View) { v.Grey = []int{3} }, false},
		{"Queue 1", func(v *api.View) { v.Queue = []int{1} }, true},
		{"Queue 1 2", func(v *api.View) { v.Queue = []int{1, 2} }, false},
		{"Queue 1 2, with such next words", func(v *api.View) { v.Queue, v.Objects[0].Next = []int{1, 2}, 5*half+2 }, true},
		{"Queue 2 1 by links alone", func(v *api.View) { v.Queue, v.Objects[1].Link = []int{2, 1}, 1 }, false},
		{"Queue 0", func(v *api.View) { v.Queue = []int{0} }, false},
		{"words of all bits", func(v *api.View) {
			v.Acks[0], v.Roots[0][0], v.Roots[0][1], v.Weaks[0] = math.MaxUint64, math.MaxUint64, 1<<63, math.MaxUint64
			v.Counts = [4]uint64{math.MaxUint64, 1, 1 << 63, math.MaxUint64}
		}, true},
	}
}

func TestP13_1_LayEdges(t *testing.T) {
	for _, c := range viewTurns() {
		v := trial.RoomyView(seen(two, freshOf(t, two)))
		c.by(&v)
		if holdLay(t, two, v) != c.ok {
			t.Errorf("%s: taken is %v", c.name, !c.ok)
		}
	}
}

// A list that is nil is as good as an empty one.
func TestP13_1_LayOfNilLists(t *testing.T) {
	sh := api.Shape{Objects: 2, Hands: 1, Roots: 1}
	v := seen(sh, freshOf(t, sh))
	want, _ := laid(sh, v)
	for range 2 {
		words, e := view.Lay(sh, v)
		if e != api.OK || !slices.Equal(words, want) {
			t.Errorf("%+v: %v, %d", v, words, e)
		}
		v.Weaks, v.Grey, v.Queue = nil, nil, nil
		for i := range v.Objects {
			v.Objects[i].Slots = nil
		}
	}
	v.Weaks, v.Grey, v.Queue, v.Objects[0].Slots = []uint64{}, []int{}, []int{}, []uint64{}
	if words, e := view.Lay(sh, v); e != api.OK || !slices.Equal(words, want) {
		t.Errorf("%+v: %v, %d", v, words, e)
	}
}

// What stands in no view is 0 in the words that are laid, and all else is as it was.
func TestP13_2_LaidWordsStandAtNothing(t *testing.T) {
	from := newSource(12)
	for range 5000 {
		sh := from.Shape()
		words := from.Words(sh)
		v, _ := view.Look(sh, words)
		got, e := view.Lay(sh, v)
		want := slices.Clone(words)
		want[0] &^= 0xf0
		for at, list := range [][]int{v.Free, v.Grey, v.Queue} {
			if want[1+at] %= half; len(list) == 0 {
				want[1+at] = 0
			}
		}
		for index := 1; index <= sh.Objects; index++ {
			want[trial.HeadAt(sh, index)] &^= 0xffff00f0
		}
		if e != api.OK || !slices.Equal(got, want) {
			t.Fatalf("%+v %x: %x, %d; want %x", sh, words, got, e, want)
		}
		again, e := view.Look(sh, got)
		if e != api.OK || !trial.SameView(again, v) {
			t.Fatalf("%+v %x: %+v, %d; want %+v", sh, words, again, e, v)
		}
		if same, e := view.Lay(sh, again); e != api.OK || !slices.Equal(same, got) {
			t.Fatalf("%+v: laid again: %x, %d; want %x", sh, same, e, got)
		}
	}
}
