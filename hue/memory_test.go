package hue_test

import (
	"slices"
	"testing"

	"midden/api"
	"midden/hue"
	"midden/trial"
)

// A verdict is what one of the laws tells.
type verdict struct {
	number int
	errno  api.Errno
}

// verdictOf: the verdict with this number, where 0 stands for OK.
func verdictOf(number int) verdict {
	if number == 0 {
		return verdict{}
	}
	return verdict{number, api.ErrWhite}
}

func verdictBy(number int, errno api.Errno) verdict { return verdict{number, errno} }

// An answers is what all calls tell of one view.
type answers struct {
	strong, weak, safe verdict
	white, grey, black []int
}

func answersOf(v api.View, busy []int) answers {
	a := answers{strong: verdictBy(hue.Strong(v, busy)), weak: verdictBy(hue.Weak(v, busy)), safe: verdictBy(hue.Safe(v))}
	a.white, a.grey, a.black = hue.Sorts(v, busy)
	return a
}

func wanted(v api.View, busy []int) answers {
	a := answers{strong: verdictBy(strong(v, busy)), weak: verdictBy(weak(v, busy)), safe: verdictBy(safe(v))}
	a.white, a.grey, a.black = sorts(v, busy)
	return a
}

func (a answers) lists() [][]int { return [][]int{a.white, a.grey, a.black} }

func (a answers) same(b answers) bool {
	return a.strong == b.strong && a.weak == b.weak && a.safe == b.safe && slices.EqualFunc(a.lists(), b.lists(), slices.Equal)
}

// holdApart spoils one list of Sorts behind the other: it fails, if another one changes by that.
func (a answers) holdApart(t *testing.T) {
	t.Helper()
	for i, list := range a.lists() {
		was := slices.Clone(a.lists())
		for k := range was {
			was[k] = slices.Clone(trial.Whole(was[k]))
		}
		trial.Spoil(list, 1000+i)
		for k, other := range a.lists() {
			if k != i && !slices.Equal(trial.Whole(other), was[k]) {
				t.Fatalf("lists %d and %d of Sorts share memory", i, k)
			}
		}
	}
}

// What is handed in stays as it is, with its spare room; each answer is memory of its own; and what is done to an answer, or to
// what was handed in, changes no other answer.
func TestP15_1_Memory(t *testing.T) {
	from := trial.Source(31)
	type handed struct {
		v    api.View
		busy []int
	}
	all := []handed{{}, {waiting(of(marked(2), white(), marked(2)), 3), []int{1}}, {waiting(of(marked(1, 2), white(), marked(2), marked(), white(1)), 3, 4, 3), []int{4, 9}}}
	for range 3000 {
		all = append(all, handed{from.View(8), from.Numbers(8)})
	}
	for _, h := range all {
		given, was := trial.RoomyView(h.v), trial.RoomyView(h.v)
		givenBusy, wasBusy := trial.Roomy(h.busy, 1), trial.Roomy(h.busy, 1)
		want := wanted(h.v, h.busy)
		first := answersOf(given, givenBusy)
		for range 3 {
			got := answersOf(given, givenBusy)
			if !got.same(want) || !first.same(want) {
				t.Fatalf("%+v, busy %v: %+v and at first %+v; want %+v", h.v, h.busy, got, first, want)
			}
			got.holdApart(t)
		}
		if !trial.SameView(trial.WholeView(given), trial.WholeView(was)) || !slices.Equal(trial.Whole(givenBusy), trial.Whole(wasBusy)) {
			t.Fatalf("what was handed in has changed: %+v, %v; was %+v, %v", given, givenBusy, was, wasBusy)
		}
		trial.HoldApart(t, given)
		trial.Spoil(givenBusy, 55)
		if !first.same(want) {
			t.Fatalf("an answer has changed: %+v; was %+v", first, want)
		}
	}
}

// Nothing is kept from call to call: between calls with other views each one answers the same.
func TestP15_1_NothingIsKept(t *testing.T) {
	from := trial.Source(32)
	for range 3000 {
		one, other := from.View(8), from.View(4)
		for _, v := range []api.View{one, other, {}, one, one, other} {
			holdView(t, v, from.Numbers(8))
		}
	}
}
