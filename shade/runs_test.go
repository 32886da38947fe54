package shade_test

import (
	"slices"
	"testing"

	"midden/api"
	"midden/shade"
	"midden/shape"
	"midden/trial"
	"midden/view"
)

// Every order of the steps of some hands, held to P16.2 wherever a run ends, and to a list all the way there.
func TestP16_2_EveryOrder(t *testing.T) {
	white := memory(three, 0, cell{1, 9}, cell{1, 9}, cell{1, 9})
	waits := memory(three, tagged(3, half-1), cell{1, 9}, cell{1, 9}, cell{3, tagged(0, 7)})
	two := memory(three, tagged(2, half-2), cell{1, 9}, cell{3, tagged(3, 1)}, cell{3, 0})
	for _, c := range []struct {
		name  string
		words []uint64
		hands [][]api.Job
		least int // spots
	}{
		{"one object, two hands", white, [][]api.Job{{mark(1, 1)}, {mark(1, 1)}}, 20},
		{"one object, three hands", white, [][]api.Job{{mark(1, 1)}, {mark(1, 1)}, {mark(1, 1)}}, 50},
		{"each hand another one", white, [][]api.Job{{mark(1, 1)}, {mark(2, 1)}, {mark(3, 1)}}, 200},
		{"two objects in opposite order", white, [][]api.Job{{mark(1, 1), mark(2, 1)}, {mark(2, 1), mark(1, 1)}}, 100},
		{"one shades, one takes", white, [][]api.Job{{mark(1, 1), mark(2, 1)}, {next, next}}, 100},
		{"both shade and take", white, [][]api.Job{{mark(1, 1), next}, {mark(1, 1), next}}, 100},
		{"both shade and take others", waits, [][]api.Job{{mark(1, 1), next}, {mark(2, 1), next}}, 150},
		{"three take one", waits, [][]api.Job{{next}, {next}, {next}}, 50},
		{"two take two, and again", two, [][]api.Job{{next, next}, {next, next}}, 50},
		{"one shades, two take", two, [][]api.Job{{mark(1, 1)}, {next, next}, {next}}, 500},
		{"what waits already is shaded", two, [][]api.Job{{mark(2, 1), next}, {mark(3, 1), mark(1, 1)}, {next}}, 100},
		{"handles that aren't good", waits, [][]api.Job{{mark(half+1, 1), mark(2, 1)}, {mark(9, 1), next}, {mark(0, 1)}}, 50},
	} {
		ends := 0
		spots := everyOrder(t, three, c.words, c.hands, func(schedule []int) {
			x, a := holdList(t, three, c.words, 1, c.hands, schedule, len(schedule))
			if x.Ended {
				holdOneWinner(t, three, c.words, 1, c.hands, x, a)
				ends++
			}
		})
		if spots < c.least || ends == 0 {
			t.Error(c.name, spots, ends)
		}
	}
}

// The same with the colour 0.
func TestP16_2_EveryOrderOfTheOtherColour(t *testing.T) {
	words := memory(three, tagged(3, 2), cell{7*half + 3, 9}, cell{3, 9}, cell{1, 0})
	hands := [][]api.Job{{mark(tagged(1, 7), 0), next}, {mark(tagged(1, 7), 0), mark(2, 0)}, {next}}
	spots := everyOrder(t, three, words, hands, func(schedule []int) {
		x, a := holdList(t, three, words, 0, hands, schedule, len(schedule))
		if x.Ended {
			holdOneWinner(t, three, words, 0, hands, x, a)
		}
	})
	if spots < 1000 {
		t.Error(spots)
	}
}

// The same object by all hands, as often as they like: one Shade of all is OK.
func TestP16_2_OneObject(t *testing.T) {
	from := trial.Source(31)
	lost := 0
	for range 2000 {
		sh := from.SmallShape()
		colour := from.Below(2)
		words := greyWords(&from, sh, colour)
		number := 1 + from.Below(sh.Objects)
		at := trial.HeadAt(sh, number)
		head := words[at] | 1 | 2
		if colour == 1 {
			head &^= 2
		}
		if list, _ := listIn(sh, words); slices.Contains(list, number) {
			continue
		}
		words[at] = head
		hands := make([][]api.Job, 2+from.Below(api.MaxHands-1))
		for h := range hands {
			hands[h] = slices.Repeat([]api.Job{mark(tagged(number, trial.Upper(head)), colour)}, 1+from.Below(4))
		}
		x, a := holdWhole(t, sh, words, colour, hands, from.Schedule(from.Below(60)))
		won := 0
		for _, told := range slices.Concat(a...) {
			won += int(told.Val)
		}
		if won != number || int(x.Words[at]/2%2) != colour {
			t.Fatal(sh, hands, x, a)
		}
		for h := range hands {
			lost += trial.CountLost(x, h, at)
		}
	}
	if lost < 1000 {
		t.Error("too few CAS of a head were lost:", lost)
	}
}

// One object waits, and all hands take: one of them has it.
func TestP16_2_OneIsTaken(t *testing.T) {
	from := trial.Source(32)
	words := memory(three, tagged(2, half-1), cell{1, 9}, cell{3, tagged(0, 5)}, cell{1, 9})
	for range 500 {
		hands := slices.Repeat([][]api.Job{{next, next}}, 1+from.Below(api.MaxHands))
		_, a := holdWhole(t, three, words, 1, hands, from.Schedule(from.Below(50)))
		taken := 0
		for _, told := range slices.Concat(a...) {
			taken += int(told.Val)
		}
		if taken != 2 {
			t.Fatal(a)
		}
	}
}

// Any jobs of one colour, from any words of which the grey list is a list.
func TestP16_2_AnySchedule(t *testing.T) {
	from := trial.Source(33)
	var c count
	longest := 0
	for range 6000 {
		sh, colour := from.SmallShape(), from.Below(2)
		words := greyWords(&from, sh, colour)
		if list, _ := listIn(sh, words); len(list) > longest {
			longest = len(list)
		}
		hands := anyJobs(&from, sh, words, []int{colour}, 1+from.Below(api.MaxHands), 10)
		x, a := holdWhole(t, sh, words, colour, hands, from.Schedule(from.Below(300)))
		c.add(sh, hands, x, a)
		// A run that is left in the middle goes along a list, too.
		hands = anyJobs(&from, sh, words, []int{colour}, 1+from.Below(api.MaxHands), 10)
		x, a = holdList(t, sh, words, colour, hands, from.Schedule(100), from.Below(100))
		c.add(sh, hands, x, a)
	}
	c.noOne = max(c.noOne, 1000) // no list leads to a number past the objects
	if c.least() < 1000 || longest < 20 {
		t.Errorf("something comes too seldom: %+v, %d", c, longest)
	}
}

// Heaps of the layer below: all that is in use is shaded and taken, cycle by cycle, with the colour turned each time. What a run
// has left goes on as well.
func TestP16_2_OneRunBehindTheOther(t *testing.T) {
	from := trial.Source(34)
	shaded := 0
	for range 200 {
		sh := from.Shape()
		words := from.Ran(sh)
		var used []uint64
		for number := 1; number <= sh.Objects; number++ {
			if head := words[trial.HeadAt(sh, number)]; head%2 == 1 {
				used = append(used, tagged(number, trial.Upper(head)))
			}
		}
		for colour := 1; colour > -5; colour-- {
			c := colour & 1
			hands := anyJobs(&from, sh, words, []int{c}, 4, 8)
			for _, h := range used {
				for range 2 {
					at := from.Below(len(hands))
					hands[at] = slices.Insert(hands[at], from.Below(len(hands[at])+1), mark(h, c))
				}
			}
			x, _ := holdWhole(t, sh, words, c, hands, from.Schedule(200))
			rest := slices.Repeat([][]api.Job{slices.Repeat([]api.Job{next}, sh.Objects)}, 2)
			y, a := holdWhole(t, sh, x.Words, c, rest, from.Schedule(100))
			if list, _ := listIn(sh, y.Words); len(list) > 0 {
				t.Fatal("not all is taken", list, a)
			}
			words = y.Words
			shaded += len(used)
		}
		for _, h := range used {
			if words[trial.HeadAt(sh, trial.Number(h))]&3 != 1 {
				t.Fatal("another colour", words)
			}
		}
	}
	if shaded < 1000 {
		t.Error(shaded)
	}
}

// The list as it is seen is the same one, and all that it shows is Live by the colour of the phase word.
func TestP16_2_AsItIsSeen(t *testing.T) {
	from := trial.Source(35)
	for range 500 {
		sh := from.Shape()
		words := greyWords(&from, sh, 1)
		words[api.Phase] |= 8
		hands := anyJobs(&from, sh, words, []int{1}, 3, 8)
		x, _ := holdWhole(t, sh, words, 1, hands, from.Schedule(60))
		v := trial.LookAt(t, sh, x.Words)
		if list, _ := listIn(sh, x.Words); !slices.Equal(v.Grey, list) {
			t.Fatal(v.Grey, list)
		}
		for _, number := range v.Grey {
			if o := v.Objects[number-1]; !o.Used || !o.Live {
				t.Fatal(number, o)
			}
		}
		if behind, e := view.Replay(words, x.Steps, len(x.Steps)); e != api.OK || !slices.Equal(behind, x.Words) {
			t.Fatal(behind, e)
		}
	}
}

// Nothing changes but heads, links and Grey, of each shape, where all words are unlike; whatever the jobs.
func TestP16_3_NothingElse(t *testing.T) {
	from := trial.Source(36)
	for _, sh := range trial.RightShapes() {
		for range 40 {
			words := memory(sh, tagged(from.Below(sh.Objects+1), tags()[from.Below(len(tags()))]))
			for number := 1; number <= sh.Objects; number++ {
				words[trial.HeadAt(sh, number)] = from.Any() | 1
				words[trial.LinkAt(sh, number)] = from.Any()
			}
			hands := anyJobs(&from, sh, words, both, api.MaxHands, 40)
			x, _, e := shade.Play(sh, words, hands, from.Schedule(500), api.MaxSteps)
			if e != api.OK || !x.Ended {
				t.Fatal(e, x.Ended)
			}
			holdNothingElse(t, sh, words, x)
			for at, w := range words {
				name, _ := shape.Name(sh, at)
				switch isChanged := w != x.Words[at]; {
				case name == "grey" || name[:4] == "link":
				case name[:4] == "head" && x.Words[at]&^2 == w&^2:
				case isChanged:
					t.Fatal(name, w, x.Words[at])
				}
			}
		}
	}
}

// The tag of Grey grows by one with each change, around its end, too; and it tells how many were made.
func TestP16_3_Tag(t *testing.T) {
	from := trial.Source(37)
	around := 0
	for range 2000 {
		sh := from.SmallShape()
		words := anyWords(&from, sh)
		words[api.Grey] = tagged(from.Below(sh.Objects+1), half-1-uint64(from.Below(20)))
		hands := anyJobs(&from, sh, words, both, 4, 10)
		x, a := play(t, sh, words, hands, from.Schedule(from.Below(150)), api.MaxSteps)
		turns := uint64(0)
		for _, told := range slices.Concat(a...) {
			if told.OK {
				turns++
			}
		}
		had, is := trial.Upper(words[api.Grey]), trial.Upper(x.Words[api.Grey])
		if (had+turns)%half != is {
			t.Fatal(had, turns, is)
		}
		if is < had {
			around++
		}
	}
	if around < 300 {
		t.Error("too few tags wrapped:", around)
	}
}
