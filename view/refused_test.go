package view_test

import (
	"slices"
	"testing"

	"midden/api"
	"midden/shape"
	"midden/trial"
	"midden/view"
)

// holdRefused fails, if a call answers anything but this error, and nothing beside it.
func holdRefused(t *testing.T, sh api.Shape, words []uint64, want api.Errno) {
	t.Helper()
	if v, e := view.Look(sh, words); e != want || !trial.SameView(v, api.View{}) {
		t.Errorf("Look of %+v, %d words: %+v, %d; want %d", sh, len(words), v, e, want)
	}
	if e := view.Check(sh, words); e != want {
		t.Errorf("Check of %+v, %d words: %d; want %d", sh, len(words), e, want)
	}
}

// ErrShape comes ahead of all: of words and views that are right for a shape, and of those that never are.
func TestP13_1_NoShape(t *testing.T) {
	right := freshOf(t, two)
	fine, _ := view.Look(two, right)
	views := []api.View{fine, {}, {Phase: -1, Colour: 2}}
	for _, sh := range trial.WrongShapes() {
		for _, words := range [][]uint64{right, nil, {0}, make([]uint64, api.MaxWords+1)} {
			holdRefused(t, sh, words, api.ErrShape)
		}
		for _, v := range views {
			if words, e := view.Lay(sh, v); e != api.ErrShape || len(words) > 0 {
				t.Errorf("Lay of %+v: %v, %d", sh, words, e)
			}
		}
		if t.Failed() {
			return
		}
	}
}

// Words that are sound but too few or too many: none, one less, one more, those of another shape.
func TestP13_1_NoSize(t *testing.T) {
	for _, sh := range trial.RightShapes() {
		size, _ := shape.Size(sh)
		fresh := freshOf(t, sh)
		long := append(slices.Clone(fresh), make([]uint64, 2*api.MaxWords)...)
		for _, n := range []int{0, 1, api.Head, size - 2, size - 1, size + 1, size + 2, 2 * size, api.MaxWords, api.MaxWords + 1} {
			holdRefused(t, sh, long[:n], api.ErrSize)
		}
		holdRefused(t, sh, nil, api.ErrSize)
		for _, other := range trial.RightShapes() {
			if other != sh {
				holdRefused(t, sh, freshOf(t, other), api.ErrSize)
			}
		}
		// ErrSize comes ahead of ErrSound.
		unsound := slices.Clone(long[:size+1])
		unsound[0] = 1
		for _, n := range []int{size - 1, size + 1} {
			if e := view.Check(sh, unsound[:n]); e != api.ErrSize {
				t.Errorf("%+v: %d", sh, e)
			}
		}
		if e := view.Check(sh, unsound[:size]); e != api.ErrSound {
			t.Errorf("%+v: %d", sh, e)
		}
		if e := view.Check(sh, fresh); e != api.OK {
			t.Errorf("%+v: %d", sh, e)
		}
	}
}

// Room isn't looked at.
func TestP13_1_RoomIsNotLookedAt(t *testing.T) {
	from := newSource(31)
	for _, sh := range trial.RightShapes() {
		words := from.sound(sh)
		for _, room := range append([]int{0, 1, api.MaxRoom + 1}, trial.Ends()...) {
			sh.Room = room
			holdLook(t, sh, words)
			holdCheck(t, sh, words)
		}
	}
}

// What is handed in stays as it is, with its spare room; each answer is memory of its own; and what is done to an answer, or
// to what was handed in, changes no other answer.
func TestP13_1_LookAndCheckMemory(t *testing.T) {
	from := newSource(32)
	for i, sh := range append(trial.RightShapes(), two, five) {
		words := from.sound(sh)
		if i%2 == 0 {
			words = from.Words(sh)
		}
		given, held := trial.Roomy(words, 77), trial.Roomy(words, 77)
		first, _ := view.Look(sh, given)
		want := trial.RoomyView(first)
		for range 3 {
			v, e := view.Look(sh, given)
			if e != api.OK || !trial.SameView(v, want) || !trial.SameView(first, want) {
				t.Fatalf("%+v: %+v, %d; want %+v", sh, v, e, want)
			}
			trial.HoldApart(t, v)
			view.Check(sh, given)
		}
		if !slices.Equal(trial.Whole(given), trial.Whole(held)) {
			t.Errorf("what was handed in has changed: %v; was %v", trial.Whole(given), trial.Whole(held))
		}
		trial.Spoil(given, 55)
		if !trial.SameView(first, want) {
			t.Errorf("an answer has changed: %+v; was %+v", first, want)
		}
	}
}

func TestP13_1_LayMemory(t *testing.T) {
	from := newSource(33)
	for _, sh := range append(trial.RightShapes(), two, five) {
		v := seen(sh, from.sound(sh))
		given, held := trial.RoomyView(v), trial.RoomyView(v)
		first, _ := view.Lay(sh, given)
		want, _ := laid(sh, v)
		for range 3 {
			words, e := view.Lay(sh, given)
			if e != api.OK || !slices.Equal(words, want) || !slices.Equal(first, want) {
				t.Fatalf("%+v: %v, %d; want %v", sh, words, e, want)
			}
			trial.Spoil(words, 55)
			unseen := v
			unseen.Free = append(slices.Clone(v.Free), 0)
			refused, was := trial.RoomyView(unseen), trial.RoomyView(unseen)
			if _, e := view.Lay(sh, refused); e != api.ErrSound || !trial.SameView(trial.WholeView(refused), trial.WholeView(was)) {
				t.Fatalf("%+v: %d, %+v; was %+v", sh, e, refused, was)
			}
		}
		if !trial.SameView(trial.WholeView(given), trial.WholeView(held)) {
			t.Errorf("what was handed in has changed: %+v; was %+v", given, held)
		}
		trial.HoldApart(t, given)
		if !slices.Equal(first, want) {
			t.Errorf("an answer has changed: %v; was %v", first, want)
		}
	}
}

func TestP13_1_ReplayMemory(t *testing.T) {
	words := []uint64{5, 7}
	steps := []api.Step{{At: 0, Had: 5, Put: 6}, {At: 1, Had: 7, Put: 8}, {At: 0, Had: 6, Put: 9}}
	for n, want := range [][]uint64{{5, 7}, {6, 7}, {6, 8}, {9, 8}} {
		givenW, heldW := trial.Roomy(words, 77), trial.Roomy(words, 77)
		givenS, heldS := trial.Roomy(steps, api.Step{Hand: -9}), trial.Roomy(steps, api.Step{Hand: -9})
		first, _ := view.Replay(givenW, givenS, n)
		for range 3 {
			got, e := view.Replay(givenW, givenS, n)
			if e != api.OK || !slices.Equal(got, want) || !slices.Equal(first, want) {
				t.Fatalf("%d: %v, %d; want %v", n, got, e, want)
			}
			trial.Spoil(got, 55)
			view.Replay(givenW, append(slices.Clone(givenS), api.Step{At: 1, Had: 1}), 4)
		}
		if !slices.Equal(trial.Whole(givenW), trial.Whole(heldW)) || !slices.Equal(trial.Whole(givenS), trial.Whole(heldS)) {
			t.Errorf("what was handed in has changed: %v, %v", givenW, givenS)
		}
		trial.Spoil(givenW, 55)
		if !slices.Equal(first, want) {
			t.Errorf("an answer has changed: %v", first)
		}
	}
}

// Nothing is kept from call to call: between calls that are refused, and calls with other shapes, each one answers the same.
func TestP13_1_NothingIsKept(t *testing.T) {
	from := newSource(34)
	wrong := trial.WrongShapes()
	for i := range 400 {
		sh, other := from.Shape(), from.Shape()
		words, others := from.Words(sh), from.sound(other)
		view.Look(wrong[i*31%len(wrong)], words)
		view.Look(sh, words[1:])
		view.Lay(sh, api.View{})
		v := holdLook(t, sh, words)
		holdLook(t, other, others)
		holdCheck(t, other, others)
		holdCheck(t, sh, words)
		view.Check(sh, words[:1])
		view.Replay(words, []api.Step{{At: -1, Put: 1}}, 1)
		if again, e := view.Look(sh, words); e != api.OK || !trial.SameView(again, v) {
			t.Fatalf("%+v: %+v, %d; was %+v", sh, again, e, v)
		}
	}
}
