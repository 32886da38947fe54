package once

import (
	"midden/api"
	"midden/cells"
	"midden/turn"
)

// How a key's action is.
const (
	notBegun = 0
	underWay = 1
	done     = 2
)

// The lines of the chapter's tables: which act comes next.
const (
	toClaim  = 1 // Do and Fail, line 1
	toCount  = 2
	toFinish = 3
	toAwait  = 4
	toLook   = 5 // Seen's only one
)

// A task is a job under way.
type task struct {
	hand, kind   int
	state, count int // the key's words
	line         int
	told         api.Answer
}

func newTask(room, hand int, j api.Job) *task {
	t := &task{hand: hand, kind: j.Kind, state: j.A, count: room + j.A, line: toClaim}
	if j.Kind == Seen {
		t.line = toLook
	}
	return t
}

func (t *task) Answer() api.Answer { return t.told }

func (t *task) Step(m *cells.Mem) (api.Step, int) {
	switch t.line {
	case toClaim:
		return t.claim(m)
	case toCount:
		return t.add(m)
	case toFinish:
		return t.finish(m)
	case toAwait:
		return t.await(m)
	}
	return t.look(m)
}

func (t *task) claim(m *cells.Mem) (api.Step, int) {
	s := m.Do(t.hand, api.CAS, t.state, notBegun, underWay)
	switch {
	case !s.OK:
		t.line = toAwait
	case t.kind == Do:
		t.line = toCount
	default: // what fails leaves the count as it is
		t.line = toFinish
	}
	return s, turn.Going
}

func (t *task) add(m *cells.Mem) (api.Step, int) {
	t.line = toFinish
	return m.Do(t.hand, api.Add, t.count, 0, 1), turn.Going
}

func (t *task) finish(m *cells.Mem) (api.Step, int) {
	t.told = api.Answer{OK: t.kind == Do, Val: 1}
	return m.Do(t.hand, api.Store, t.state, 0, done), turn.Ended
}

func (t *task) await(m *cells.Mem) (api.Step, int) {
	s := m.Do(t.hand, api.Load, t.state, 0, 0)
	if s.Had != done {
		return s, turn.Going
	}
	t.told = api.Answer{OK: true}
	return s, turn.Ended
}

func (t *task) look(m *cells.Mem) (api.Step, int) {
	s := m.Do(t.hand, api.Load, t.state, 0, 0)
	t.told = api.Answer{OK: s.Had == done, Val: s.Had}
	return s, turn.Ended
}
