package trial_test

import (
	"slices"
	"testing"

	"midden/api"
	"midden/trial"
)

// Four objects: 1 shows 2 and, by a bad handle, 3; 2 shows itself; 3 shows 1; 4 isn't in use, and shows 3.
func TestReached(t *testing.T) {
	v := api.View{
		Objects: []api.Object{
			{Used: true, Slots: []uint64{0, 1<<32 | 2, 1<<32 | 3}}, {Used: true, Gen: 1, Slots: []uint64{1<<32 | 2}}, {Used: true, Slots: []uint64{1, 9}}, {Gen: 1<<32 + 5, Slots: []uint64{3}},
		},
		Roots: [][]uint64{{0, 7}, nil, {1 << 32}},
		Queue: []int{0, 4, 5, 2, -1},
	}
	for h, want := range map[uint64]int{0: 0, 1: 1, 2: 0, 1<<32 | 2: 2, 3: 3, 4: 0, 5<<32 | 4: 0, 5: 0, 1 << 32: 0} {
		if got := trial.Shown(v, h); got != want {
			t.Errorf("%x shows %d; want %d", h, got, want)
		}
	}
	if got := trial.ShownBy(v, []uint64{3, 9, 1, 3}); !slices.Equal(got, []bool{true, false, true, false}) {
		t.Error(got)
	}
	want := [][]bool{{false, true, false, false}, {false, true, false, false}, {true, false, false, false}, {false, false, true, false}}
	if got := trial.Shows(v); !slices.EqualFunc(got, want, slices.Equal) {
		t.Error(got)
	}
	for from, want := range map[uint64][]bool{0: {false, false, false, false}, 1: {true, true, false, false}, 1<<32 | 2: {false, true, false, false}, 3: {true, true, true, false}, 5<<32 | 4: {false, false, false, false}} {
		if got := trial.Reached(v, []uint64{from}); !slices.Equal(got, want) {
			t.Errorf("from %x: %v; want %v", from, got, want)
		}
	}
	if got := trial.Starts(v); !slices.Equal(got, []uint64{7, 1 << 32, 5<<32 | 4, 1<<32 | 2}) {
		t.Errorf("%x", got)
	}
	if v.Roots[0][0] != 0 || v.Roots[0][1] != 7 {
		t.Error("the roots have changed:", v.Roots)
	}
}
