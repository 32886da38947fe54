package trial

import (
	"math"
	"slices"

	"midden/api"
)

// These hold for layers that look at Room alone of a shape, from 1 to most.

// oddShape: a shape of which all but Room is out of its range.
func oddShape(n int) api.Shape {
	return api.Shape{Objects: -1, Slots: math.MaxInt, Hands: math.MinInt, Roots: -7, Weaks: 99, Room: n}
}

// HoldFresh fails, if the words at the beginning are not these, at each room, or if Size isn't how many they are.
func (l Layer) HoldFresh(t T, most int, want func(n int) []uint64) {
	t.Helper()
	for n := 1; n <= most; n++ {
		size, e := l.Size(oddShape(n))
		words, e2 := l.Fresh(oddShape(n))
		if e != api.OK || e2 != api.OK || size != len(want(n)) || !slices.Equal(words, want(n)) {
			t.Fatalf("room %d: %d, %v, %v, %v; want %v", n, size, e, words, e2, want(n))
		}
	}
}

// HoldTaskErrors fails, if Task answers anything but ErrShape of what is no room, and else the error that is wanted for
// a hand of any number and a kind, from 1 to kinds or another one. Beside those no field is looked at.
func (l Layer) HoldTaskErrors(t T, most, kinds int, want func(hand, kind int) api.Errno) {
	t.Helper()
	allKinds := NoKinds(kinds)
	for kind := 1; kind <= kinds; kind++ {
		allKinds = append(allKinds, kind)
	}
	for _, hand := range append([]int{0, 1, api.MaxHands - 1, api.MaxHands, api.MaxHands + 1, 1 << 32}, Ends()...) {
		for _, kind := range allKinds {
			j := api.Job{Kind: kind, A: -1, B: math.MaxInt, C: math.MinInt, H: math.MaxUint64}
			for _, n := range NoRooms(most) {
				l.holdTaskError(t, n, hand, j, api.ErrShape)
			}
			for _, n := range []int{1, 2, most} {
				l.holdTaskError(t, n, hand, j, want(hand, kind))
			}
		}
	}
}

func (l Layer) holdTaskError(t T, n, hand int, j api.Job, want api.Errno) {
	t.Helper()
	if k, e := l.Task(api.Shape{Room: n}, hand, j); e != want || (k == nil) != (want != api.OK) {
		t.Errorf("room %d, hand %d, %v: %v, %v; want %v", n, hand, j, k, e, want)
	}
}
