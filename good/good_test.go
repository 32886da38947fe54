package good_test

import (
	"math"
	"testing"

	"midden/api"
	"midden/good"
)

const half = 1 << 32

func TestObject(t *testing.T) {
	objects := []api.Object{{Used: true}, {Used: true, Gen: 7}, {Gen: 7}, {Used: true, Gen: half - 1}, {Used: true, Gen: half}, {Used: true, Gen: half + 7}}
	for h, want := range map[uint64]int{
		0: 0, half: 0, 1: 1, half + 1: 0, 2: 0, 7*half + 2: 2, 6*half + 2: 0, 8*half + 2: 0, 7*half + 3: 0, 3: 0,
		(half-1)*half + 4: 4, 4: 0, 5: 0, half + 5: 0, 6: 0, 7*half + 6: 0, 7: 0, 7*half + 7: 0, half - 1: 0, math.MaxUint64: 0, 1<<31 + 1: 0,
	} {
		if got := good.Object(objects, h); got != want {
			t.Errorf("%x: %d; want %d", h, got, want)
		}
		if got := good.Object(nil, h); got != 0 {
			t.Errorf("%x among none: %d", h, got)
		}
	}
}

func TestIsObject(t *testing.T) {
	for number, want := range map[int]bool{0: false, 1: true, 2: true, 3: false, -1: false, half + 1: false, math.MinInt: false, math.MaxInt: false} {
		if got := good.IsObject(make([]api.Object, 2), number); got != want {
			t.Errorf("%d of two: %v", number, got)
		}
		if good.IsObject(nil, number) {
			t.Errorf("%d of none", number)
		}
	}
}
