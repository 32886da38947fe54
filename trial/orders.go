package trial

import (
	"slices"
	"strconv"

	"midden/api"
	"midden/turn"
)

// mostSpots: a run that can come to more of them is no run for EveryOrder.
const mostSpots = 100000

// EveryOrder tells of each spot that the hands can come to, and of each step from there, one schedule that leads to it.
// (A hand that waits comes back to where it was: so they are not without end.) It answers how many spots there are.
// What a task's going on hangs on, state tells.
func (l Layer) EveryOrder(t T, sh api.Shape, words []uint64, hands [][]api.Job, state func(turn.Task) string, hold func(schedule []int)) int {
	t.Helper()
	return l.EveryPast(t, sh, words, hands, state, func(schedule []int) string {
		hold(schedule)
		return ""
	})
}

// EveryPast is EveryOrder for what hangs on how a run came to a spot, too: that hold tells, and two spots are the same
// only where it is.
func (l Layer) EveryPast(t T, sh api.Shape, words []uint64, hands [][]api.Job, state func(turn.Task) string, hold func(schedule []int) string) int {
	t.Helper()
	seen := map[string]struct{}{}
	for todo := [][]int{nil}; len(todo) > 0; todo = todo[1:] {
		schedule := todo[0]
		past := hold(schedule)
		spot, going := l.spotOf(t, sh, words, hands, state, schedule)
		spot += "\n" + past
		if _, known := seen[spot]; known {
			continue
		}
		seen[spot] = struct{}{}
		if len(seen) > mostSpots {
			t.Fatalf("there is no end of it: %v %v %v", sh, words, hands)
			break
		}
		for pick := range going {
			todo = append(todo, append(slices.Clip(schedule), pick))
		}
	}
	return len(seen)
}

// spotOf: where a run stands behind a schedule, told by all that its going on hangs on, and by what it told so far; and
// how many hands go on.
func (l Layer) spotOf(t T, sh api.Shape, words []uint64, hands [][]api.Job, state func(turn.Task) string, schedule []int) (spot string, going int) {
	t.Helper()
	made := make([][]turn.Task, len(hands))
	x, a, e := turn.Play(words, hands, schedule, len(schedule), func(hand int, j api.Job) (turn.Task, api.Errno) {
		k, e := l.Task(sh, hand, j)
		made[hand] = append(made[hand], k)
		return k, e
	})
	if e != api.OK {
		t.Fatalf("%v %v: %v", sh, hands, e)
	}
	var key []byte
	for _, w := range x.Words {
		key = append(strconv.AppendUint(key, w, 10), ' ')
	}
	for h, own := range made {
		key = append(key, '\n')
		for _, told := range a[h] {
			key = strconv.AppendUint(strconv.AppendBool(key, told.OK), told.Val, 10)
		}
		if n := len(a[h]); n < len(own) {
			key = append(append(key, ' '), state(own[n])...)
			going++
		}
	}
	return string(key), going
}
