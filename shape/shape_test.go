package shape_test

import (
	"math"
	"slices"
	"strings"
	"testing"

	"midden/api"
	"midden/shape"
	"midden/trial"
	"midden/word"
)

// A call that tells a place, with its arguments bound.
type call struct {
	name string
	tell func(sh api.Shape) (int, api.Errno)
}

func ack(hand int) call {
	return call{"Ack", func(sh api.Shape) (int, api.Errno) { return shape.Ack(sh, hand) }}
}
func root(hand, root int) call {
	return call{"Root", func(sh api.Shape) (int, api.Errno) { return shape.Root(sh, hand, root) }}
}
func weak(weak int) call {
	return call{"Weak", func(sh api.Shape) (int, api.Errno) { return shape.Weak(sh, weak) }}
}
func object(index int) call {
	return call{"Object", func(sh api.Shape) (int, api.Errno) { return shape.Object(sh, index) }}
}
func slot(index, slot int) call {
	return call{"Slot", func(sh api.Shape) (int, api.Errno) { return shape.Slot(sh, index, slot) }}
}

// holdPlace fails, if the call tells anything but this place; or this error, and beside it 0.
func holdPlace(t *testing.T, sh api.Shape, c call, want int, errno api.Errno) {
	t.Helper()
	if at, e := c.tell(sh); at != want || e != errno {
		t.Errorf("%s of %+v: %d, %d; want %d, %d", c.name, sh, at, e, want, errno)
	}
}

func holdName(t *testing.T, sh api.Shape, at int, want string, errno api.Errno) {
	t.Helper()
	if name, e := shape.Name(sh, at); name != want || e != errno {
		t.Errorf("Name(%+v, %d): %q, %d; want %q, %d", sh, at, name, e, want, errno)
	}
}

func TestP12_1_Examples(t *testing.T) {
	if n, e := shape.Size(example); n != 20 || e != api.OK {
		t.Errorf("Size: %d, %d", n, e)
	}
	holdPlace(t, example, ack(0), 8, api.OK)
	holdPlace(t, example, root(0, 1), 10, api.OK)
	holdPlace(t, example, weak(0), 11, api.OK)
	holdPlace(t, example, object(1), 12, api.OK)
	holdPlace(t, example, object(2), 16, api.OK)
	holdPlace(t, example, slot(2, 0), 19, api.OK)
	holdPlace(t, example, object(0), 0, api.ErrArg)
	holdName(t, example, 14, "next 1", api.OK)
	holdName(t, example, 15, "slot 1 0", api.OK)
	holdName(t, example, 9, "root 0 0", api.OK)
	holdName(t, example, 20, "", api.ErrPlace)
	eight, none := example, example
	eight.Hands, none.Slots = 8, 0
	if e := shape.Check(eight); e != api.ErrShape {
		t.Errorf("Hands 8: %d", e)
	}
	if e := shape.Check(none); e != api.OK {
		t.Errorf("Slots 0: %d", e)
	}
	want := make([]uint64, 20)
	want[1], want[13] = 1, 2
	if words, e := shape.Fresh(example); !slices.Equal(words, want) || e != api.OK {
		t.Errorf("Fresh: %v, %d", words, e)
	}
}

// The names at both ends of each part, where each part has more than one word.
func TestP12_1_EndsOfTheParts(t *testing.T) {
	sh := api.Shape{Objects: 64, Slots: 4, Hands: 7, Roots: 8, Weaks: 16}
	for at, want := range map[int]string{
		0: "phase", 1: "free", 2: "grey", 3: "queue", 4: "allocated", 5: "freed", 6: "queued", 7: "cycles",
		8: "ack 0", 14: "ack 6",
		15: "root 0 0", 22: "root 0 7", 23: "root 1 0", 70: "root 6 7",
		71: "weak 0", 86: "weak 15",
		87: "head 1", 88: "link 1", 89: "next 1", 90: "slot 1 0", 93: "slot 1 3",
		94: "head 2", 528: "head 64", 529: "link 64", 530: "next 64", 531: "slot 64 0", 534: "slot 64 3",
	} {
		holdName(t, sh, at, want, api.OK)
		if place, e := placeOf(t, sh, want); place != at || e != api.OK {
			t.Errorf("%s: %d, %d; want %d", want, place, e, at)
		}
	}
	holdName(t, sh, -1, "", api.ErrPlace)
	holdName(t, sh, 535, "", api.ErrPlace)
}

// A shape without slots has none to ask for, and its objects stand three words apart; likewise without weak words.
func TestP12_1_PartsThatAreEmpty(t *testing.T) {
	bare := api.Shape{Objects: 2, Hands: 1, Roots: 1}
	holdPlace(t, bare, root(0, 0), 9, api.OK)
	holdPlace(t, bare, object(1), 10, api.OK)
	holdPlace(t, bare, object(2), 13, api.OK)
	for _, n := range append([]int{0, 1}, trial.Ends()...) {
		holdPlace(t, bare, weak(n), 0, api.ErrArg)
		holdPlace(t, bare, slot(1, n), 0, api.ErrArg)
		holdPlace(t, bare, slot(2, n), 0, api.ErrArg)
	}
	for at, want := range map[int]string{8: "ack 0", 9: "root 0 0", 10: "head 1", 12: "next 1", 13: "head 2", 15: "next 2"} {
		holdName(t, bare, at, want, api.OK)
	}
	holdName(t, bare, 16, "", api.ErrPlace)
}

func TestP12_1_EveryRightShape(t *testing.T) {
	for sh := range everyShape() {
		if e := shape.Check(sh); e != api.OK {
			t.Fatalf("%+v: %d", sh, e)
		}
		want := 8 + sh.Hands + sh.Hands*sh.Roots + sh.Weaks + sh.Objects*(3+sh.Slots)
		if n, e := shape.Size(sh); n != want || e != api.OK || n > api.MaxWords {
			t.Fatalf("Size of %+v: %d, %d; want %d", sh, n, e, want)
		}
		last := want - 3 - sh.Slots
		holdPlace(t, sh, ack(sh.Hands-1), 7+sh.Hands, api.OK)
		holdPlace(t, sh, root(sh.Hands-1, sh.Roots-1), 7+sh.Hands+sh.Hands*sh.Roots, api.OK)
		holdPlace(t, sh, object(sh.Objects), last, api.OK)
		if sh.Weaks > 0 {
			holdPlace(t, sh, weak(sh.Weaks-1), 7+sh.Hands+sh.Hands*sh.Roots+sh.Weaks, api.OK)
		}
		if sh.Slots > 0 {
			holdPlace(t, sh, slot(sh.Objects, sh.Slots-1), want-1, api.OK)
		}
		if t.Failed() {
			return
		}
	}
}

func TestP12_1_EveryWord(t *testing.T) {
	for sh := range someShapes() {
		names := layout(sh)
		if n, e := shape.Size(sh); n != len(names) || e != api.OK {
			t.Fatalf("Size of %+v: %d, %d; want %d", sh, n, e, len(names))
		}
		for at, name := range names {
			holdName(t, sh, at, name, api.OK)
			if place, e := placeOf(t, sh, name); place != at || e != api.OK {
				t.Errorf("%+v, %s: %d, %d; want %d", sh, name, place, e, at)
			}
		}
		if t.Failed() {
			return
		}
	}
}

// Room isn't looked at, by any call.
func TestP12_1_RoomIsNotLookedAt(t *testing.T) {
	for _, sh := range trial.RightShapes() {
		want, _ := shape.Fresh(sh)
		for _, room := range append([]int{0, 1, api.MaxRoom, api.MaxRoom + 1, 1 << 32}, trial.Ends()...) {
			other := sh
			other.Room = room
			words, e := shape.Fresh(other)
			size, _ := shape.Size(other)
			if c := shape.Check(other); c != api.OK || e != api.OK || size != len(want) || !slices.Equal(words, want) {
				t.Errorf("%+v: %d, %d, %d, %v", other, c, e, size, words)
			}
			for at, name := range layout(sh) {
				holdName(t, other, at, name, api.OK)
				if place, e := placeOf(t, other, name); place != at || e != api.OK {
					t.Errorf("%+v, %s: %d, %d", other, name, place, e)
				}
			}
		}
	}
}

// The words by their Names alone: no two names are the same, and the call for the name tells the word again.
func TestP12_2_ThereAndBack(t *testing.T) {
	for sh := range someShapes() {
		size, _ := shape.Size(sh)
		seen := map[string]int{}
		for at := range size {
			name, e := shape.Name(sh, at)
			if was, twice := seen[name]; twice || e != api.OK {
				t.Fatalf("%+v: %d is %q, %d, as %d is", sh, at, name, e, was)
			}
			seen[name] = at
			if place, e := placeOf(t, sh, name); place != at || e != api.OK {
				t.Fatalf("%+v: %d is %q, of which %d, %d is told", sh, at, name, place, e)
			}
		}
	}
}

// The words by the calls alone: each tells a word that no other one tells, and together they tell all behind the head.
func TestP12_2_TheCallsTellEachWordOnce(t *testing.T) {
	for sh := range someShapes() {
		size, _ := shape.Size(sh)
		told := make([]int, size)
		tell := func(at int, e api.Errno) {
			t.Helper()
			if e != api.OK || at < api.Head || at >= size {
				t.Fatalf("%+v: %d, %d", sh, at, e)
			}
			told[at]++
		}
		for hand := range sh.Hands {
			tell(shape.Ack(sh, hand))
			for n := range sh.Roots {
				tell(shape.Root(sh, hand, n))
			}
		}
		for n := range sh.Weaks {
			tell(shape.Weak(sh, n))
		}
		for index := 1; index <= sh.Objects; index++ {
			at, e := shape.Object(sh, index)
			tell(at, e)
			tell(at+1, e)
			tell(at+2, e)
			for n := range sh.Slots {
				tell(shape.Slot(sh, index, n))
			}
		}
		for at, times := range told {
			if want := min(1, max(0, at-api.Head+1)); times != want {
				t.Fatalf("%+v: %d is told %d times", sh, at, times)
			}
		}
	}
}

// freeList: the objects that follow from Free by their links, as long as they rise.
func freeList(t *testing.T, sh api.Shape, words []uint64) []int {
	t.Helper()
	var out []int
	for index := word.Index(words[api.Free]); index != 0; {
		at, e := shape.Object(sh, index)
		if e != api.OK || len(out) > 0 && index <= out[len(out)-1] {
			t.Fatalf("%+v: from %v on comes %d", sh, out, index)
		}
		out = append(out, index)
		index = int(words[at+1])
	}
	return out
}

func TestP12_3_Fresh(t *testing.T) {
	for sh := range someShapes() {
		words, e := shape.Fresh(sh)
		if size, _ := shape.Size(sh); len(words) != size || e != api.OK {
			t.Fatalf("Fresh of %+v: %d words, %d; want %d", sh, len(words), e, size)
		}
		if list := freeList(t, sh, words); !slices.Equal(list, span(1, sh.Objects)) {
			t.Fatalf("%+v: the free list is %v", sh, list)
		}
		if want := freshWords(sh, layout(sh)); !slices.Equal(words, want) {
			t.Fatalf("Fresh of %+v: %v; want %v", sh, words, want)
		}
	}
}

// freshWords: what stands at the beginning at the words of these names.
func freshWords(sh api.Shape, names []string) []uint64 {
	out := make([]uint64, len(names))
	index := 0
	for at, name := range names {
		switch {
		case name == "free":
			out[at] = 1
		case strings.HasPrefix(name, "link "):
			if index++; index < sh.Objects {
				out[at] = uint64(index + 1)
			}
		}
	}
	return out
}

// One object is the list's first and its last one; of MaxObjects none is left out.
func TestP12_3_FewestAndMostObjects(t *testing.T) {
	one := api.Shape{Objects: 1, Slots: 2, Hands: 1, Roots: 1, Weaks: 1}
	want := make([]uint64, 16)
	want[api.Free] = 1
	if words, e := shape.Fresh(one); !slices.Equal(words, want) || e != api.OK {
		t.Errorf("one object: %v, %d", words, e)
	}
	most := api.Shape{Objects: api.MaxObjects, Hands: 1, Roots: 1}
	words, e := shape.Fresh(most)
	if len(words) != 10+3*64 || e != api.OK || len(freeList(t, most, words)) != 64 {
		t.Fatalf("%d objects: %v, %d", api.MaxObjects, words, e)
	}
	if words[10+3*62+1] != 64 || words[10+3*63+1] != 0 {
		t.Errorf("the last links: %d, %d", words[10+3*62+1], words[10+3*63+1])
	}
}

// The words at the beginning tell the phase Idle, the colour 0 and the round 0, and a free list whose tag is 0.
func TestP12_3_FreshWordsAreRead(t *testing.T) {
	for _, sh := range trial.RightShapes() {
		words, _ := shape.Fresh(sh)
		if phase, colour, round := word.Parts(words[api.Phase]); phase != api.Idle || colour != 0 || round != 0 {
			t.Errorf("%+v: %d, %d, %d", sh, phase, colour, round)
		}
		if words[api.Free] != word.Tagged(1, 0) {
			t.Errorf("%+v: Free is %x", sh, words[api.Free])
		}
	}
}

// Each answer is memory of its own: what is written over it, and over its spare room, is seen in no other one, made ahead
// or behind.
func TestP12_3_FreshIsNewEachTime(t *testing.T) {
	for _, sh := range trial.RightShapes() {
		first, _ := shape.Fresh(sh)
		want := slices.Clone(first)
		for range 3 {
			other, e := shape.Fresh(sh)
			if !slices.Equal(other, want) || e != api.OK {
				t.Fatalf("Fresh of %+v: %v, %d", sh, other, e)
			}
			for i := range other[:cap(other)] {
				other[:cap(other)][i] = math.MaxUint64
			}
			if !slices.Equal(first, want) {
				t.Fatalf("Fresh of %+v: an answer has changed: %v", sh, first)
			}
		}
	}
}
