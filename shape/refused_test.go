package shape_test

import (
	"slices"
	"strings"
	"testing"

	"midden/api"
	"midden/shape"
	"midden/trial"
)

// holdNoShape fails, if a call answers anything but ErrShape, and zero beside it, with these numbers as its arguments.
func holdNoShape(t *testing.T, sh api.Shape, n, m int) {
	t.Helper()
	for _, c := range []call{ack(n), root(n, m), weak(n), object(n), slot(n, m)} {
		holdPlace(t, sh, c, 0, api.ErrShape)
	}
	holdName(t, sh, n, "", api.ErrShape)
}

// ErrShape comes ahead of all others: of arguments that would be right, and of those that never are.
func TestP12_1_NoShape(t *testing.T) {
	for _, sh := range trial.WrongShapes() {
		if e := shape.Check(sh); e != api.ErrShape {
			t.Errorf("%+v: %d", sh, e)
		}
		if n, e := shape.Size(sh); n != 0 || e != api.ErrShape {
			t.Errorf("Size of %+v: %d, %d", sh, n, e)
		}
		if words, e := shape.Fresh(sh); len(words) != 0 || e != api.ErrShape {
			t.Errorf("Fresh of %+v: %d words, %d", sh, len(words), e)
		}
		for _, n := range append([]int{0, 1, 99, api.MaxWords}, trial.Ends()...) {
			holdNoShape(t, sh, n, 0)
			holdNoShape(t, sh, 1, n)
		}
	}
}

// At a limit a field is taken, one past it it is refused, whatever the others are.
func TestP12_1_LimitsOfTheFields(t *testing.T) {
	for _, sh := range trial.RightShapes() {
		for _, f := range trial.Fields() {
			for n := f.Least - 3; n <= f.Most+3; n++ {
				turned, want := sh, api.OK
				*f.Of(&turned) = n
				if n < f.Least || n > f.Most {
					want = api.ErrShape
				}
				if e := shape.Check(turned); e != want {
					t.Errorf("%s %d in %+v: %d; want %d", f.Name, n, sh, e, want)
				}
			}
		}
	}
}

// outside: what is none of the numbers from first to last; some are so in their upper half alone, or pass the end of int,
// when they are multiplied or added up.
func outside(first, last int) []int {
	return append([]int{first - 1, last + 1, last + 2, 1<<32 + first, -1<<32 + first, 1 << 61, 1 << 62, -1 << 62}, trial.Ends()...)
}

func TestP12_1_NoSuchWord(t *testing.T) {
	for _, sh := range trial.RightShapes() {
		for _, n := range outside(0, sh.Hands-1) {
			holdPlace(t, sh, ack(n), 0, api.ErrArg)
			for _, r := range append(span(0, sh.Roots), trial.Ends()...) {
				holdPlace(t, sh, root(n, r), 0, api.ErrArg)
			}
		}
		for _, n := range outside(0, sh.Roots-1) {
			for hand := range sh.Hands {
				holdPlace(t, sh, root(hand, n), 0, api.ErrArg)
			}
		}
		for _, n := range outside(0, sh.Weaks-1) {
			holdPlace(t, sh, weak(n), 0, api.ErrArg)
		}
		for _, n := range outside(1, sh.Objects) {
			holdPlace(t, sh, object(n), 0, api.ErrArg)
			for _, s := range append(span(0, sh.Slots), trial.Ends()...) {
				holdPlace(t, sh, slot(n, s), 0, api.ErrArg)
			}
		}
		for _, n := range outside(0, sh.Slots-1) {
			for index := 1; index <= sh.Objects; index++ {
				holdPlace(t, sh, slot(index, n), 0, api.ErrArg)
			}
		}
	}
}

// The ends of what is taken, beside what is refused: first and last of each kind in every one of some shapes.
func TestP12_1_FirstAndLast(t *testing.T) {
	for sh := range someShapes() {
		names := layout(sh)
		at := func(name string) int { return slices.Index(names, name) }
		holdPlace(t, sh, ack(-1), 0, api.ErrArg)
		holdPlace(t, sh, ack(0), at("ack 0"), api.OK)
		holdPlace(t, sh, ack(sh.Hands), 0, api.ErrArg)
		holdPlace(t, sh, root(0, 0), at("root 0 0"), api.OK)
		holdPlace(t, sh, root(-1, sh.Roots-1), 0, api.ErrArg)
		holdPlace(t, sh, root(sh.Hands, 0), 0, api.ErrArg)
		holdPlace(t, sh, root(sh.Hands-1, sh.Roots), 0, api.ErrArg)
		holdPlace(t, sh, root(sh.Hands-1, -1), 0, api.ErrArg)
		holdPlace(t, sh, weak(-1), 0, api.ErrArg)
		holdPlace(t, sh, weak(sh.Weaks), 0, api.ErrArg)
		holdPlace(t, sh, object(0), 0, api.ErrArg)
		holdPlace(t, sh, object(1), at("head 1"), api.OK)
		holdPlace(t, sh, object(sh.Objects), at(numbered("head", sh.Objects)), api.OK)
		holdPlace(t, sh, object(sh.Objects+1), 0, api.ErrArg)
		holdPlace(t, sh, slot(0, 0), 0, api.ErrArg)
		holdPlace(t, sh, slot(sh.Objects+1, 0), 0, api.ErrArg)
		holdPlace(t, sh, slot(1, -1), 0, api.ErrArg)
		holdPlace(t, sh, slot(sh.Objects, sh.Slots), 0, api.ErrArg)
		if sh.Weaks > 0 {
			holdPlace(t, sh, weak(0), at("weak 0"), api.OK)
		}
		if sh.Slots > 0 {
			holdPlace(t, sh, slot(1, 0), at("slot 1 0"), api.OK)
		}
	}
}

func TestP12_1_NoSuchPlace(t *testing.T) {
	for sh := range someShapes() {
		size := len(layout(sh))
		for _, at := range append([]int{size, size + 1, api.MaxWords - 1, api.MaxWords, 1 << 32, -1 << 32, 1 << 62}, trial.Ends()...) {
			holdName(t, sh, at, "", api.ErrPlace)
		}
		if name, e := shape.Name(sh, size-1); e != api.OK || !strings.HasPrefix(name, "slot ") && !strings.HasPrefix(name, "next ") {
			t.Errorf("%+v: the last word is %q, %d", sh, name, e)
		}
	}
}

// A call that is refused changes nothing for the next one, and a call with one shape nothing for one with another.
func TestP12_1_NothingIsKept(t *testing.T) {
	wrong := trial.WrongShapes()
	for i, sh := range trial.RightShapes() {
		want := layout(sh)
		for k := range 40 {
			other := trial.RightShapes()[(i+k)%len(trial.RightShapes())]
			bad := wrong[(i*97+k*31)%len(wrong)]
			shape.Fresh(bad)
			shape.Fresh(other)
			shape.Slot(sh, -k, k)
			shape.Name(bad, k)
			shape.Name(sh, -1-k)
			at := k * 7 % len(want)
			holdName(t, sh, at, want[at], api.OK)
			if place, e := placeOf(t, sh, want[at]); place != at || e != api.OK {
				t.Errorf("%+v, %s: %d, %d", sh, want[at], place, e)
			}
			if n, e := shape.Size(sh); n != len(want) || e != api.OK {
				t.Errorf("Size of %+v: %d, %d", sh, n, e)
			}
		}
	}
}
