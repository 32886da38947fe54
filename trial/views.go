package trial

import (
	"slices"

	"midden/api"
)

// SameView: nil lists and empty ones are the same.
func SameView(a, b api.View) bool {
	return a.Phase == b.Phase && a.Colour == b.Colour && a.Round == b.Round && a.Counts == b.Counts &&
		slices.EqualFunc(wordLists(a), wordLists(b), slices.Equal) && slices.EqualFunc(numberLists(a), numberLists(b), slices.Equal) &&
		len(a.Roots) == len(b.Roots) && slices.EqualFunc(a.Objects, b.Objects, sameFields)
}

// wordLists, numberLists: all lists of a view, in one order.
func wordLists(v api.View) [][]uint64 {
	out := [][]uint64{v.Acks, v.Weaks}
	out = append(out, v.Roots...)
	for _, o := range v.Objects {
		out = append(out, o.Slots)
	}
	return out
}
func numberLists(v api.View) [][]int { return [][]int{v.Free, v.Grey, v.Queue} }

// sameFields: all but the slots.
func sameFields(a, b api.Object) bool {
	return a.Used == b.Used && a.Live == b.Live && a.Final == b.Final && a.Taken == b.Taken && a.Age == b.Age && a.Gen == b.Gen &&
		a.Link == b.Link && a.Next == b.Next
}

// RoomyView: the same view in memory of its own, each list with some more in its spare room.
func RoomyView(v api.View) api.View {
	v.Acks, v.Weaks = Roomy(v.Acks, 77), Roomy(v.Weaks, 77)
	v.Free, v.Grey, v.Queue = Roomy(v.Free, 77), Roomy(v.Grey, 77), Roomy(v.Queue, 77)
	v.Roots = Roomy(v.Roots, nil)
	for i, r := range v.Roots {
		v.Roots[i] = Roomy(r, 77)
	}
	v.Objects = Roomy(v.Objects, api.Object{Age: -9})
	for i, o := range v.Objects {
		v.Objects[i].Slots = Roomy(o.Slots, 77)
	}
	return v
}

// WholeView: a view with its lists' spare room. It is for looking at alone: it shares the lists' memory.
func WholeView(v api.View) api.View {
	v.Acks, v.Weaks = Whole(v.Acks), Whole(v.Weaks)
	v.Free, v.Grey, v.Queue = Whole(v.Free), Whole(v.Grey), Whole(v.Queue)
	v.Roots, v.Objects = slices.Clone(Whole(v.Roots)), slices.Clone(Whole(v.Objects))
	for i, r := range v.Roots {
		v.Roots[i] = Whole(r)
	}
	for i, o := range v.Objects {
		v.Objects[i].Slots = Whole(o.Slots)
	}
	return v
}

// HoldApart spoils one list of an answer behind the other, and at last the lists of lists: it fails, if another list
// changes by that.
func HoldApart(t T, v api.View) {
	t.Helper()
	words, numbers := wordLists(v), numberLists(v)
	for i, list := range words {
		held := RoomyView(v)
		Spoil(list, uint64(1000+i))
		for k, want := range wordLists(held) {
			if k != i && !slices.Equal(words[k], want) {
				t.Fatalf("two lists of a view share memory: number %d and number %d: %v; was %v", i, k, words[k], want)
			}
		}
	}
	for i, list := range numbers {
		held := RoomyView(v)
		Spoil(list, 1000+i)
		for k, want := range numberLists(held) {
			if k != i && !slices.Equal(numbers[k], want) {
				t.Fatalf("two lists of objects share memory: number %d and number %d: %v; was %v", i, k, numbers[k], want)
			}
		}
	}
	Spoil(v.Roots, nil)
	Spoil(v.Objects, api.Object{Age: -9})
}
