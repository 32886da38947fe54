package seq

import (
	"midden/api"
	"midden/cells"
	"midden/turn"
)

// The words: the version, and the record's from there on.
const (
	version = 0
	record  = 1
)

// writer: the hand that writes. No other one stores, so what it has loaded of the version stays true until it stores.
const writer = 0

// The states of the chapter's tables. Each job has some of them, in this order.
const (
	toLook = iota
	toOpen
	toTouch // the record's words
	toClose
)

// A writing is a Write under way.
type writing struct {
	last  int // of the record's words
	state int
	at    int    // the record's word that is touched next
	was   uint64 // the version ahead of it
	value uint64
	told  api.Answer
}

func (w *writing) Answer() api.Answer { return w.told }

func (w *writing) Step(m *cells.Mem) (api.Step, int) {
	switch w.state {
	case toLook:
		s := m.Do(writer, api.Load, version, 0, 0)
		w.was, w.state = s.Had, toOpen
		return s, turn.Going
	case toOpen:
		w.at, w.state = record, toTouch
		return w.store(m, version, w.was+1), turn.Going
	case toTouch:
		return w.touch(m), turn.Going
	}
	w.told = api.Answer{OK: true, Val: w.was + 2}
	return w.store(m, version, w.was+2), turn.Ended
}

func (w *writing) touch(m *cells.Mem) api.Step {
	s := w.store(m, w.at, w.value)
	if w.at++; w.at > w.last {
		w.state = toClose
	}
	return s
}

func (w *writing) store(m *cells.Mem, at int, v uint64) api.Step {
	return m.Do(writer, api.Store, at, 0, v)
}

// A reading is a Read under way.
type reading struct {
	hand  int
	last  int // of the record's words
	state int
	at    int        // the record's word that is touched next
	seen  uint64     // the version, when the words were begun
	found api.Answer // of the words so far: whether they are alike, and the first one
	told  api.Answer
}

func (r *reading) Answer() api.Answer { return r.told }

func (r *reading) Step(m *cells.Mem) (api.Step, int) {
	switch r.state {
	case toLook:
		return r.look(m), turn.Going
	case toTouch:
		return r.touch(m), turn.Going
	}
	return r.finish(m)
}

func (r *reading) look(m *cells.Mem) api.Step {
	s := r.load(m, version)
	if s.Had%2 == 0 {
		r.seen, r.at, r.state = s.Had, record, toTouch
	}
	return s
}

func (r *reading) touch(m *cells.Mem) api.Step {
	s := r.load(m, r.at)
	if r.at == record {
		r.found = api.Answer{OK: true, Val: s.Had}
	}
	if s.Had != r.found.Val {
		r.found.OK = false
	}
	if r.at++; r.at > r.last {
		r.state = toClose
	}
	return s
}

// finish: where the version has gone on, the words may be torn, and are forgotten.
func (r *reading) finish(m *cells.Mem) (api.Step, int) {
	s := r.load(m, version)
	if s.Had != r.seen {
		r.state = toLook
		return s, turn.Going
	}
	r.told = r.found
	return s, turn.Ended
}

func (r *reading) load(m *cells.Mem, at int) api.Step { return m.Do(r.hand, api.Load, at, 0, 0) }
