package heap

import (
	"midden/api"
	"midden/cells"
	"midden/turn"
)

// An Act makes a task's next step, and tells whether the task goes on.
type Act func(m *cells.Mem) (api.Step, int)

// A Behind says how a task goes on behind another one that was a part of it, by what that one told.
type Behind func(told api.Answer) int

// A Work is a task under way, to be embedded in what a task holds of its own. What it does next stands in it as a function:
// each act, when it is made, puts there what follows it.
type Work struct {
	hand   int
	next   Act
	part   turn.Task
	behind Behind
	told   api.Answer
}

// Begin: the hand whose task it is, and its first act. BeginAlong: the first acts are those of another task.
func (w *Work) Begin(hand int, first Act) { w.hand, w.next = hand, first }
func (w *Work) BeginAlong(hand int, part turn.Task, behind Behind) {
	w.hand = hand
	w.GoAlong(part, behind)
}

// Hand: whose task it is; the tasks that are parts of it are that hand's too.
func (w *Work) Hand() int { return w.hand }

// Step, Answer: as turn asks of a task.
func (w *Work) Step(m *cells.Mem) (api.Step, int) { return w.next(m) }
func (w *Work) Answer() api.Answer                { return w.told }

// GoOn: the task goes on with that act.
func (w *Work) GoOn(next Act) int {
	w.next = next
	return turn.Going
}

// GoAlong: the task goes on with the steps of another one, which are its own.
func (w *Work) GoAlong(part turn.Task, behind Behind) int {
	w.part, w.behind = part, behind
	return w.GoOn(w.along)
}

func (w *Work) along(m *cells.Mem) (api.Step, int) {
	s, state := w.part.Step(m)
	if state == turn.Ended {
		return s, w.behind(w.part.Answer())
	}
	return s, turn.Going
}

// End: the task is done, and tells this. One that has nothing to tell ends with Refuse; one that tells why with RefuseWith.
func (w *Work) End(v uint64) int {
	w.told = api.Answer{OK: true, Val: v}
	return turn.Ended
}
func (w *Work) Refuse() int { return turn.Ended }
func (w *Work) RefuseWith(v uint64) int {
	w.told = api.Answer{Val: v}
	return turn.Ended
}

// The acts, by the task's hand.
func (w *Work) Load(m *cells.Mem, at int) api.Step { return m.Do(w.hand, api.Load, at, 0, 0) }
func (w *Work) Store(m *cells.Mem, at int, v uint64) api.Step {
	return m.Do(w.hand, api.Store, at, 0, v)
}
func (w *Work) Add(m *cells.Mem, at int, v uint64) api.Step { return m.Do(w.hand, api.Add, at, 0, v) }
func (w *Work) CAS(m *cells.Mem, at int, old, v uint64) api.Step {
	return m.Do(w.hand, api.CAS, at, old, v)
}
