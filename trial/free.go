package trial

import (
	"slices"

	"midden/api"
)

// HoldOneHand fails, if one hand alone does otherwise, when it runs free, than by a schedule: it has nothing to choose.
func (l Layer) HoldOneHand(t T, sh api.Shape, jobs []api.Job) {
	t.Helper()
	fresh, _ := l.Fresh(sh)
	hands := [][]api.Job{jobs}
	x, want, _ := l.Model(sh, fresh, hands, nil, api.MaxSteps)
	w, a, e := l.Free(sh, hands)
	if e != api.OK || !x.Ended || !slices.Equal(w, x.Words) || !SameAnswers(a, want) {
		t.Fatalf("%v %v: %v %v %v; want %v %v", sh, jobs, w, a, e, x.Words, want)
	}
}

// Settles tells, whether no more than so many are counted, at once or behind some rests. (A goroutine that has told
// that it is done may need a moment to be gone.)
func Settles(most int, count func() int, rest func()) bool {
	for range 1000000 {
		if count() <= most {
			return true
		}
		rest()
	}
	return false
}
