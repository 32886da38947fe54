package heap_test

import (
	"slices"
	"testing"

	"midden/api"
	"midden/heap"
	"midden/trial"
)

// Two objects with a slot: the heads are the words 10 and 14; behind each stand its link, its next and its slot.
var pair = api.Shape{Objects: 2, Slots: 1, Hands: 1, Roots: 1}

// Each bit of a head that is turned, or set, stands where layer 1 has it.
func TestBits(t *testing.T) {
	if heap.ColourBit != 2 || heap.TakenBit != 8 {
		t.Error(heap.ColourBit, heap.TakenBit)
	}
}

// behind: which of an object's words shows the one behind it, in each list.
func behind(list int) func(sh api.Shape, number int) int {
	if list == api.Queue {
		return trial.NextAt
	}
	return trial.LinkAt
}

var lists = []int{api.Free, api.Grey, api.Queue}

// An object is put ahead of what stands on a list, whatever that shows; others may turn it by then.
func TestLay(t *testing.T) {
	for _, list := range lists {
		for _, hand := range append(trial.Ends(), 0, 8) {
			for number := 1; number <= 2; number++ {
				at := behind(list)(pair, number)
				for _, head := range []uint64{0, 1, 2, trial.Tagged(7, half-1), trial.Tagged(half-1, 5)} {
					words := trial.Memory(pair, list, head)
					turned := trial.Turned(head, number)
					steps, told, after := trial.Drive(t, heap.Lay(pair, hand, list, number), words, nil)
					want := []api.Step{trial.Load(hand, list, head), trial.Store(hand, at, words[at], head%half), trial.CAS(hand, list, head, turned)}
					if !slices.Equal(steps, want) || !told.OK || !slices.Equal(after, trial.Puts(words, uint64(at), head%half, uint64(list), turned)) {
						t.Error(list, hand, number, steps, told, after)
					}
				}
				words, other := trial.Memory(pair, list, 0), trial.Tagged(2, 1)
				steps, _, _ := trial.Drive(t, heap.Lay(pair, hand, list, number), words, map[int]trial.Put{2: {uint64(list), other}})
				if !slices.Equal(steps, []api.Step{
					trial.Load(hand, list, 0), trial.Store(hand, at, words[at], 0), trial.Lost(hand, list, other),
					trial.Load(hand, list, other), trial.Store(hand, at, 0, 2), trial.CAS(hand, list, other, trial.Tagged(number, 2)),
				}) {
					t.Error(list, hand, number, steps)
				}
			}
		}
	}
}

// The first object of a list is taken off it, and what is behind it comes first; where none is shown, there is nothing to take.
func TestDraw(t *testing.T) {
	for _, list := range lists {
		for _, hand := range append(trial.Ends(), 0, 8) {
			for number := 1; number <= 2; number++ {
				at := behind(list)(pair, number)
				for _, tag := range trial.Tags() {
					words := trial.Puts(trial.Memory(pair, list, trial.Tagged(number, tag)), uint64(at), trial.Tagged(5, 3))
					steps, told, after := trial.Drive(t, heap.Draw(pair, hand, list), words, nil)
					turned := trial.Turned(words[list], 5)
					want := []api.Step{trial.Load(hand, list, words[list]), trial.Load(hand, at, words[at]), trial.CAS(hand, list, words[list], turned)}
					if !slices.Equal(steps, want) || told != trial.Told(uint64(number)) || !slices.Equal(after, trial.With(words, list, turned)) {
						t.Error(list, hand, number, steps, told, after)
					}
				}
				words, other := trial.Memory(pair, list, trial.Tagged(number, 3)), trial.Tagged(3-number, 4)
				last := behind(list)(pair, 3-number)
				steps, told, _ := trial.Drive(t, heap.Draw(pair, hand, list), words, map[int]trial.Put{2: {uint64(list), other}, 4: {uint64(last), 0}})
				if told != trial.Told(uint64(3-number)) || !slices.Equal(steps, []api.Step{
					trial.Load(hand, list, words[list]), trial.Load(hand, at, words[at]), trial.Lost(hand, list, other),
					trial.Load(hand, list, other), trial.Load(hand, last, 0), trial.CAS(hand, list, other, trial.Tagged(0, 5)),
				}) {
					t.Error(list, hand, number, steps, told)
				}
			}
			for _, number := range append(trial.FarNumbers(2), 0) {
				words := trial.Memory(pair, list, trial.Tagged(number, 1))
				steps, told, after := trial.Drive(t, heap.Draw(pair, hand, list), words, nil)
				if len(steps) != 1 || told != (api.Answer{}) || !slices.Equal(after, words) {
					t.Error(list, hand, number, steps, told)
				}
			}
		}
	}
}

// Of a number that is no object's, and of a shape that is none, no word changes but the list's head.
func TestListsOfNoObject(t *testing.T) {
	for _, list := range lists {
		words := trial.Memory(pair, list, 1)
		for _, sh := range append(trial.WrongShapes(), pair) {
			_, _, after := trial.Drive(t, heap.Lay(sh, 0, list, 3), words, nil)
			if !slices.Equal(after, trial.With(words, list, trial.Tagged(3, 1))) {
				t.Error(list, sh, after)
			}
		}
	}
}
