package view_test

import (
	"slices"
	"testing"

	"midden/api"
	"midden/shape"
	"midden/trial"
	"midden/view"
)

// sound: a memory at rest of this shape, with something in all that needn't be nothing: tags, rounds, counts, acks, the
// links and next words of objects that are in no list, the bits that aren't looked at.
func (s *source) sound(sh api.Shape) []uint64 {
	colour := s.Below(2)
	v := api.View{Colour: colour, Round: s.Any() >> 8, Counts: [4]uint64{s.Any(), s.Any(), s.Any(), s.Any()}}
	var good []uint64
	var free, queue []int
	for index := 1; index <= sh.Objects; index++ {
		o := api.Object{Used: s.Below(2) == 0, Live: s.Below(2) == 0, Final: s.Below(2) == 0, Taken: s.Below(2) == 0, Age: s.Below(256)}
		o.Gen = []uint64{0, 1, uint64(s.Below(half)), half - 2, half - 1}[s.Below(5)]
		o.Link, o.Next = s.Near(sh.Objects), s.Near(sh.Objects)
		switch {
		case o.Used:
			o.Live = true
			good = append(good, uint64(index)+half*o.Gen)
			if o.Final && o.Taken && s.Below(3) > 0 {
				queue = append(queue, index)
			}
		case o.Gen != half-1 || s.Below(2) == 0:
			free = append(free, index)
		}
		v.Objects = append(v.Objects, o)
	}
	handles := func(n int) []uint64 {
		out := make([]uint64, n)
		for i := range out {
			if len(good) > 0 && s.Below(3) > 0 {
				out[i] = good[s.Below(len(good))]
			}
		}
		return out
	}
	for i, o := range v.Objects {
		if v.Objects[i].Slots = make([]uint64, sh.Slots); o.Used {
			v.Objects[i].Slots = handles(sh.Slots)
		}
	}
	for range sh.Hands {
		v.Acks = append(v.Acks, s.Any())
		v.Roots = append(v.Roots, handles(sh.Roots))
	}
	v.Weaks = handles(sh.Weaks)
	v.Free, v.Queue = s.shuffled(free), s.shuffled(queue)
	for i, n := range v.Free {
		v.Objects[n-1].Link = s.leads(v.Free, i)
	}
	for i, n := range v.Queue {
		v.Objects[n-1].Next = s.leads(v.Queue, i)
	}
	words, ok := laid(sh, v)
	if !ok {
		panic("a memory that isn't one")
	}
	s.litter(sh, words)
	return words
}

func (s *source) shuffled(list []int) []int {
	out := slices.Clone(list)
	for i := range out {
		k := i + s.Below(len(out)-i)
		out[i], out[k] = out[k], out[i]
	}
	return out
}

// leads: a word that leads on from a list's number i to the next one, or to its end.
func (s *source) leads(list []int, i int) uint64 {
	w := half * uint64(s.Below(3))
	if i+1 < len(list) {
		w += uint64(list[i+1])
	}
	return w
}

// litter sets bits that nobody looks at.
func (s *source) litter(sh api.Shape, words []uint64) {
	words[0] |= s.Any() & 0xf0
	for at := 1; at <= 3; at++ {
		words[at] |= s.Any() &^ (half - 1)
	}
	for index := 1; index <= sh.Objects; index++ {
		words[trial.HeadAt(sh, index)] |= s.Any() & 0xffff00f0
	}
}

// holdCheck fails, if Check doesn't answer by the chapter's list. It tells the lines that are broken.
func holdCheck(t *testing.T, sh api.Shape, words []uint64) []string {
	t.Helper()
	lines, want := broken(sh, words), api.OK
	if len(lines) > 0 {
		want = api.ErrSound
	}
	if e := view.Check(sh, words); e != want {
		t.Fatalf("%+v %x: %d; want %d: %v", sh, words, e, want, lines)
	}
	return lines
}

func TestP13_1_CheckTakesWhatIsSound(t *testing.T) {
	from := newSource(1)
	for range 4000 {
		sh := from.Shape()
		if lines := holdCheck(t, sh, from.sound(sh)); len(lines) > 0 {
			t.Fatal(lines)
		}
	}
}

// Each word of a sound memory becomes another one: one that shows an object or none, one bit more or less, any word. Each
// line of the list is broken alone so, many times.
func TestP13_1_CheckRefusesEachBrokenLine(t *testing.T) {
	from := newSource(2)
	alone, fine := map[string]int{}, 0
	for range 400 {
		sh := from.Shape()
		words := from.sound(sh)
		for range 250 {
			at := from.Below(len(words))
			if from.Below(4) == 0 {
				at = from.Below(4)
			}
			was := words[at]
			switch from.Below(3) {
			case 0:
				words[at] = from.One(sh)
			case 1:
				words[at] ^= 1 << from.Below(64)
			case 2:
				words[at] = from.Near(sh.Objects)
			}
			switch lines := holdCheck(t, sh, words); len(lines) {
			case 0:
				fine++
			case 1:
				alone[lines[0]]++
			}
			words[at] = was
		}
	}
	for _, line := range lines() {
		if alone[line] < 30 {
			t.Errorf("%q was broken alone %d times", line, alone[line])
		}
	}
	if fine < 1000 {
		t.Errorf("%d were sound", fine)
	}
}

// Five objects with a slot: 1 is in use and shown; 2 is in use and in the queue; 3 and 4 are free; 5 is out for good.
//
//	0 phase, 1 free, 2 grey, 3 queue; 4 to 7 counts; 8 ack; 9, 10 roots; 11, 12 weak words;
//	13 head 1, 14 link, 15 next, 16 slot; 17 head 2 ..; 21 head 3 ..; 25 head 4 ..; 29 head 5, 30 link, 31 next, 32 slot.
var five = api.Shape{Objects: 5, Slots: 1, Hands: 1, Roots: 2, Weaks: 2}

func atRest() []uint64 {
	w := make([]uint64, 33)
	w[0], w[1], w[3] = 7<<8, half+3, 2
	w[9], w[11] = 6*half+1, 2
	w[13], w[16] = 6*half+1, 2 // generation 6; shows 2
	w[17], w[20] = 13, 6*half+1
	w[21], w[22] = 4*half, 4
	w[25] = 9 * half
	w[29] = (half - 1) * half
	return w
}

// A change of a memory: word by word, where and what.
type change map[int]uint64

func (c change) of(words []uint64) []uint64 {
	out := slices.Clone(words)
	for at, w := range c {
		out[at] = w
	}
	return out
}

func TestP13_1_CheckWithOneLineBrokenAlone(t *testing.T) {
	if lines := holdCheck(t, five, atRest()); len(lines) > 0 {
		t.Fatal(lines)
	}
	const out = (half - 1) * half // not in use, and out for good
	for _, c := range []struct {
		line string
		by   change
	}{
		{isIdle, change{0: 7<<8 + 1}}, {isIdle, change{0: 2}}, {isIdle, change{0: 3}}, {isIdle, change{0: 4}},
		{isIdle, change{0: 5}}, {isIdle, change{0: 6}}, {isIdle, change{0: 7}},
		{freeWhole, change{26: 6}},                         // past the last object
		{freeWhole, change{26: half - 1}},                  // the greatest number
		{freeWhole, change{26: 3}},                         // back to the first one
		{freeWhole, change{26: 4}},                         // to itself
		{freeWhole, change{1: 3, 26: 5, 30: 4}},            // back to a later one
		{freeWhole, change{1: 6, 21: out, 25: out}},        // empty as it is seen, but not whole
		{freeWhole, change{1: half - 1, 21: out, 25: out}}, // likewise
		{freeWhole, change{26: 9*half + 3}},
		{greyWhole, change{2: 6}}, {greyWhole, change{2: half - 1}}, {greyWhole, change{2: 5*half + 6}},
		{greyEmpty, change{2: 1}}, {greyEmpty, change{2: 4}}, {greyEmpty, change{2: half + 3}}, {greyEmpty, change{2: 5}},
		{queueWhole, change{3: 6}}, {queueWhole, change{3: half - 1}}, {queueWhole, change{19: 2}}, {queueWhole, change{19: 7*half + 2}},
		{queueWhole, change{19: 6}}, {queueWhole, change{13: 6*half + 13, 19: 1, 15: 2}}, {queueWhole, change{13: 6*half + 13, 19: 1, 15: 1}},
		{noneUsedFree, change{26: 1}}, {noneUsedFree, change{1: 2, 18: 3}}, {noneUsedFree, change{26: half + 2}},
		{slotsNone, change{24: 1}}, {slotsNone, change{28: 2}}, {slotsNone, change{32: 2}}, {slotsNone, change{24: 6*half + 1}}, {slotsNone, change{32: 1 << 63}},
		{unusedFree, change{1: 4}}, {unusedFree, change{22: 0}}, {unusedFree, change{29: (half - 2) * half}}, {unusedFree, change{29: 0}},
		{unusedFree, change{29: half}}, {unusedFree, change{1: 0, 21: out}}, {unusedFree, change{29: (half/2 - 1) * half}},
		{colours, change{13: 6*half + 3}}, {colours, change{17: 15}}, {colours, change{0: 7<<8 + 8, 17: 15}}, {colours, change{0: 8}},
		{queueUsed, change{17: 12 + out, 11: 0, 16: 0, 20: 0}}, {queueUsed, change{3: 5, 29: 12 + out}}, {queueUsed, change{19: 3, 21: 4*half + 12}},
		{queueFinal, change{17: 9}}, {queueFinal, change{19: 1, 13: 6*half + 9}},
		{queueTaken, change{17: 5}}, {queueTaken, change{19: 1, 13: 6*half + 5}},
		{rootsGood, change{9: 1}},          // another generation
		{rootsGood, change{9: 5*half + 1}}, // a generation before
		{rootsGood, change{10: 7*half + 1}},
		{rootsGood, change{10: 4*half + 3}}, // not in use
		{rootsGood, change{10: 6}},          // no such object
		{rootsGood, change{10: 9}},
		{rootsGood, change{9: 6 * half}}, // no index, but a generation
		{rootsGood, change{10: half}},
		{rootsGood, change{10: 1<<64 - 1}},
		{rootsGood, change{10: out + 5}},
		{weaksGood, change{11: 1}}, {weaksGood, change{12: half}}, {weaksGood, change{12: 9*half + 4}}, {weaksGood, change{11: 6}}, {weaksGood, change{12: half + 2}},
		{slotsGood, change{16: 3}}, {slotsGood, change{16: half + 2}}, {slotsGood, change{20: 6 * half}}, {slotsGood, change{20: 1}}, {slotsGood, change{16: 6}},
	} {
		words := c.by.of(atRest())
		if lines := holdCheck(t, five, words); len(lines) != 1 || lines[0] != c.line {
			t.Errorf("%x breaks %v, not %q alone", c.by, lines, c.line)
		}
	}
}

// What nothing is asked of: a sound memory stays sound.
func TestP13_1_CheckLooksAtNothingElse(t *testing.T) {
	const out = (half - 1) * half
	for _, by := range []change{
		{0: 0}, {0: 0xfffffffffffffff0 &^ 8}, {0: 0xf0}, // the round, and bits that aren't looked at
		{0: 8, 13: 6*half + 3, 17: 15},                                                 // the other colour
		{1: 3}, {1: out + 3}, {2: half}, {2: out}, {3: out + 2}, {26: out}, {19: half}, // tags, and upper halves of links
		{4: 5, 5: 1 << 63, 6: 1<<64 - 1, 7: 9}, {8: 1<<64 - 1},
		{14: 3, 15: 4}, {14: 77, 15: 1<<64 - 1}, {18: 2}, {23: 1, 27: 9, 31: 2}, {30: 5}, // links and next words of objects in no such list
		{13: 6*half + 0xffffff0001 - 0xff00000000}, {21: 4*half + 0xfffffffe}, // bits and ages
		{21: 4*half + 2}, {21: 4*half + 12}, // one that is free has any colour, finalizer, taken or not
		{29: out + 14},
		{26: 5},              // out for good, and on Free
		{1: half + 3, 30: 9}, // its link is in no list
		{9: 0, 11: 0, 16: 0, 20: 0},
		{3: 0}, {3: 0, 17: 1}, {3: 0, 17: 5}, {3: 0, 17: 9},
		{3: 1, 13: 6*half + 13, 15: 2}, // two in the queue
		{9: 2, 10: 2, 11: 2, 12: 6*half + 1, 16: 6*half + 1},
		{1: 0, 21: out, 25: out},
		{1: 0, 21: 1, 25: 1 + half, 29: out + 1, 10: half + 4, 12: out + 5, 24: 3}, // all are in use
		{1: 4, 26: 3, 22: 0},
	} {
		if lines := holdCheck(t, five, by.of(atRest())); len(lines) > 0 {
			t.Errorf("%x: %v", by, lines)
		}
	}
}

// Any words, most of which are far from sound; and words of few kinds, some of which are sound by chance.
func TestP13_1_CheckOfAnyWords(t *testing.T) {
	from := newSource(3)
	for range 20000 {
		sh := from.Shape()
		holdCheck(t, sh, from.Words(sh))
	}
	sh := api.Shape{Objects: 2, Slots: 1, Hands: 1, Roots: 1, Weaks: 1}
	heads := []uint64{0, 1, 13, 3, 9, 5, 12, half, half + 1, (half - 1) * half, (half-1)*half + 1}
	sound := 0
	for range 150000 {
		words := make([]uint64, trial.SizeOf(sh))
		words[0] = uint64(from.Below(9)) / 8 * uint64(from.Below(9))
		words[1], words[2], words[3] = uint64(from.Below(4)), uint64(from.Below(10))/9, uint64(from.Below(3))
		for at := 9; at < len(words); at++ {
			words[at] = uint64(from.Below(2)) * []uint64{1, 2, 3, half, half + 1}[from.Below(5)]
		}
		words[11], words[15] = heads[from.Below(len(heads))], heads[from.Below(len(heads))]
		if len(holdCheck(t, sh, words)) == 0 {
			sound++
		}
	}
	if sound < 300 {
		t.Errorf("%d were sound", sound)
	}
}

func TestP13_4_FreshIsSound(t *testing.T) {
	shapes := trial.RightShapes()
	from := newSource(4)
	for range 2000 {
		shapes = append(shapes, from.Shape())
	}
	for objects := 1; objects <= api.MaxObjects; objects++ {
		for slots := range api.MaxSlots + 1 {
			shapes = append(shapes, api.Shape{Objects: objects, Slots: slots, Hands: 1 + objects%7, Roots: 1 + objects%8, Weaks: objects % 17})
		}
	}
	for _, sh := range shapes {
		words, e := shape.Fresh(sh)
		if c := view.Check(sh, words); e != api.OK || c != api.OK {
			t.Errorf("%+v: %d, %d", sh, e, c)
		}
	}
}
