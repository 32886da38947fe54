package graph_test

import (
	"slices"
	"testing"

	"midden/api"
	"midden/graph"
	"midden/trial"
)

// An answers is what all calls tell of one view, from these handles and to this object.
type answers struct {
	reach, live, held []bool
	roots             []uint64
	dead, way         []int
}

func answersOf(v api.View, from []uint64, to int) answers {
	return answers{graph.Reach(v, from), graph.Live(v), graph.Held(v), graph.Roots(v), graph.Dead(v), graph.Way(v, to)}
}

func wanted(v api.View, from []uint64, to int) answers {
	return answers{trial.Reached(v, from), trial.Reached(v, trial.Starts(v)), held(v), trial.Starts(v), dead(v), way(v, to)}
}

func (a answers) same(b answers) bool {
	return slices.Equal(a.reach, b.reach) && slices.Equal(a.live, b.live) && slices.Equal(a.held, b.held) &&
		slices.Equal(a.roots, b.roots) && slices.Equal(a.dead, b.dead) && slices.Equal(a.way, b.way)
}

func (a answers) spoil() {
	for _, list := range [][]bool{a.reach, a.live, a.held} {
		for i, is := range trial.Whole(list) {
			trial.Whole(list)[i] = !is
		}
	}
	trial.Spoil(a.roots, 55)
	trial.Spoil(a.dead, 55)
	trial.Spoil(a.way, 55)
}

// What is handed in stays as it is, with its spare room; each answer is memory of its own; and what is done to an answer, or to
// what was handed in, changes no other answer.
func TestP14_1_Memory(t *testing.T) {
	source := trial.Source(31)
	views := []api.View{three(), {}, rooted([]uint64{1}, object(1)), rooted([]uint64{3, 2}, object(3, 2), object(3, 1), object(2, 1))}
	for range 2000 {
		views = append(views, source.View(8))
	}
	for _, v := range views {
		from := []uint64{source.Handle(v.Objects), source.Handle(v.Objects), 1}
		to := 1 + source.Below(len(v.Objects)+1)
		given, was := trial.RoomyView(v), trial.RoomyView(v)
		givenFrom, wasFrom := trial.Roomy(from, 1), trial.Roomy(from, 1)
		want := wanted(v, from, to)
		first := answersOf(given, givenFrom, to)
		for range 3 {
			got := answersOf(given, givenFrom, to)
			if !got.same(want) || !first.same(want) {
				t.Fatalf("%+v from %x to %d: %+v and at first %+v; want %+v", v, from, to, got, first, want)
			}
			got.spoil()
		}
		if !trial.SameView(trial.WholeView(given), trial.WholeView(was)) || !slices.Equal(trial.Whole(givenFrom), trial.Whole(wasFrom)) {
			t.Fatalf("what was handed in has changed: %+v, %x; was %+v, %x", given, givenFrom, was, wasFrom)
		}
		trial.HoldApart(t, given)
		trial.Spoil(givenFrom, 55)
		if !first.same(want) {
			t.Fatalf("an answer has changed: %+v; was %+v", first, want)
		}
	}
}

// Nothing is kept from call to call: between calls with other views each one answers the same.
func TestP14_1_NothingIsKept(t *testing.T) {
	source := trial.Source(32)
	for range 2000 {
		one, other := source.View(8), source.View(4)
		from := []uint64{source.Handle(one.Objects), source.Handle(other.Objects)}
		for _, v := range []api.View{one, other, {}, one, one, other} {
			to := 1 + source.Below(len(v.Objects)+1)
			if got, want := answersOf(v, from, to), wanted(v, from, to); !got.same(want) {
				t.Fatalf("%+v from %x to %d: %+v; want %+v", v, from, to, got, want)
			}
		}
	}
}
