package trial

import (
	"slices"
	"strconv"

	"midden/api"
	"midden/cells"
	"midden/turn"
)

// mostSpots: a run that can come to more of them is no run for EveryOrder.
const mostSpots = 100000

// EveryOrder tells of each spot that the hands can come to, and of each step from there, one schedule that leads to it.
// (A hand that waits comes back to where it was: so they are not without end.) It answers how many spots there are.
// What a task's going on hangs on, state tells; where there is no state, the task's steps so far do: it knows no more.
func (l Layer) EveryOrder(t T, sh api.Shape, words []uint64, hands [][]api.Job, state func(turn.Task) string, hold func(schedule []int)) int {
	t.Helper()
	return l.EveryPast(t, sh, words, hands, state, func(schedule []int) string {
		hold(schedule)
		return ""
	})
}

// EveryPast is EveryOrder for what hangs on how a run came to a spot, too: that hold tells, and two spots are the same
// only where it is.
func (l Layer) EveryPast(t T, sh api.Shape, words []uint64, hands [][]api.Job, state func(turn.Task) string, hold func(schedule []int) string) int {
	t.Helper()
	seen := map[string]struct{}{}
	for todo := [][]int{nil}; len(todo) > 0; todo = todo[1:] {
		schedule := todo[0]
		past := hold(schedule)
		spot, going := l.spotOf(t, sh, words, hands, state, schedule)
		spot += "\n" + past
		if _, known := seen[spot]; known {
			continue
		}
		seen[spot] = struct{}{}
		if len(seen) > mostSpots {
			t.Fatalf("there is no end of it: %v %v %v", sh, words, hands)
			break
		}
		for pick := range going {
			todo = append(todo, append(slices.Clip(schedule), pick))
		}
	}
	return len(seen)
}

// spotOf: where a run stands behind a schedule, told by all that its going on hangs on, and by what it told so far; and
// how many hands go on.
func (l Layer) spotOf(t T, sh api.Shape, words []uint64, hands [][]api.Job, state func(turn.Task) string, schedule []int) (spot string, going int) {
	t.Helper()
	l = l.anew()
	made := make([][]*watched, len(hands))
	x, a, e := turn.Play(words, hands, schedule, len(schedule), func(hand int, j api.Job) (turn.Task, api.Errno) {
		k, e := l.Task(sh, hand, j)
		if k == nil {
			return nil, e
		}
		w := &watched{Task: k}
		made[hand] = append(made[hand], w)
		return w, e
	})
	if e != api.OK {
		t.Fatalf("%v %v: %v", sh, hands, e)
	}
	var key []byte
	for _, w := range x.Words {
		key = append(strconv.AppendUint(key, w, 10), ' ')
	}
	for h, own := range made {
		key = append(key, '\n')
		for _, told := range a[h] {
			key = strconv.AppendUint(strconv.AppendBool(key, told.OK), told.Val, 10)
		}
		if n := len(a[h]); n < len(own) {
			key = append(append(key, ' '), own[n].told(state)...)
			going++
		}
	}
	return string(key), going
}

// A watched is a task, and the steps that it has made.
type watched struct {
	turn.Task
	made []api.Step
}

func (w *watched) Step(m *cells.Mem) (api.Step, int) {
	s, how := w.Task.Step(m)
	w.made = append(w.made, s)
	return s, how
}

// told: where the task stands, by its state, or by its steps.
func (w *watched) told(state func(turn.Task) string) string {
	if state != nil {
		return state(w.Task)
	}
	var key []byte
	for _, s := range w.made {
		key = strconv.AppendInt(append(key, ','), int64(s.At), 10)
		key = strconv.AppendBool(strconv.AppendUint(append(key, ':'), s.Had, 10), s.OK)
	}
	return string(key)
}
