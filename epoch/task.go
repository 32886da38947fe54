package epoch

import (
	"midden/api"
	"midden/cells"
	"midden/turn"
)

// The words: the epoch, the hands', and the places' from there on.
const (
	now    = 0
	inside = 1
	places = inside + api.MaxHands
)

// A work is what the jobs under way have in common.
type work struct {
	hand int
	told api.Answer
}

func (w *work) Answer() api.Answer { return w.told }

func (w *work) load(m *cells.Mem, at int) api.Step { return m.Do(w.hand, api.Load, at, 0, 0) }

func (w *work) cas(m *cells.Mem, at int, old, v uint64) api.Step {
	return m.Do(w.hand, api.CAS, at, old, v)
}

// storeOwn: no other hand stores to a hand's word, so it needs no CAS.
func (w *work) storeOwn(m *cells.Mem, v uint64) api.Step {
	return m.Do(w.hand, api.Store, inside+w.hand, 0, v)
}

// An entering is an Enter under way.
type entering struct {
	work
	seen   uint64 // the epoch
	loaded bool
}

// Step: the epoch may have gone on between load and store; the hand counts as one that came in with the older one.
func (e *entering) Step(m *cells.Mem) (api.Step, int) {
	if !e.loaded {
		s := e.load(m, now)
		e.seen, e.loaded = s.Had, true
		return s, turn.Going
	}
	e.told = api.Answer{OK: true, Val: e.seen}
	return e.storeOwn(m, e.seen+1), turn.Ended
}

// A leaving is a Leave under way.
type leaving struct{ work }

func (l *leaving) Step(m *cells.Mem) (api.Step, int) {
	l.told = api.Answer{OK: true}
	return l.storeOwn(m, 0), turn.Ended
}

// A retiring is a Retire under way.
type retiring struct {
	work
	place  int
	seen   uint64 // the epoch
	loaded bool
}

func (r *retiring) Step(m *cells.Mem) (api.Step, int) {
	if !r.loaded {
		s := r.load(m, now)
		r.seen, r.loaded = s.Had, true
		return s, turn.Going
	}
	s := r.cas(m, places+r.place, 0, r.seen+1)
	r.told = api.Answer{OK: s.OK}
	return s, turn.Ended
}

// The states of a Reap, in the order of the chapter's table.
const (
	toLook = iota
	toAsk  // the hands
	toTurn // the epoch
	toLookAgain
	toVisit    // a place
	toGiveBack // the place
)

// A reaping is a Reap under way.
type reaping struct {
	work
	room  int
	state int
	next  int    // the hand that is asked next, or the place that is looked at
	seen  uint64 // the epoch, as it was loaded last
	given uint64 // the place's word, as it was loaded
	mask  uint64 // the places that were given back so far
}

func (r *reaping) Step(m *cells.Mem) (api.Step, int) {
	switch r.state {
	case toLook:
		return r.look(m, toAsk), turn.Going
	case toAsk:
		return r.ask(m), turn.Going
	case toTurn:
		// Where it isn't done, another hand's Reap has turned it: that is as good.
		r.state = toLookAgain
		return r.cas(m, now, r.seen, r.seen+1), turn.Going
	case toLookAgain:
		return r.look(m, toVisit), turn.Going
	case toVisit:
		return r.visit(m)
	}
	return r.giveBack(m)
}

func (r *reaping) look(m *cells.Mem, then int) api.Step {
	s := r.load(m, now)
	r.seen, r.next, r.state = s.Had, 0, then
	return s
}

// ask: a hand that came in with an earlier epoch may see what was given up since, so this one stays.
func (r *reaping) ask(m *cells.Mem) api.Step {
	s := r.load(m, inside+r.next)
	r.next++
	switch {
	case s.Had != 0 && s.Had != r.seen+1:
		r.state = toLookAgain
	case r.next == api.MaxHands:
		r.state = toTurn
	}
	return s
}

// visit: the epoch has to be two past the one in which the place was given up; one past it, hands may be inside still
// that came in ahead of that.
func (r *reaping) visit(m *cells.Mem) (api.Step, int) {
	s := r.load(m, places+r.next)
	if s.Had != 0 && s.Had+1 <= r.seen {
		r.given, r.state = s.Had, toGiveBack
		return s, turn.Going
	}
	return s, r.goOn()
}

// giveBack: of several Reaps at one place, the one whose CAS is done tells it.
func (r *reaping) giveBack(m *cells.Mem) (api.Step, int) {
	s := r.cas(m, places+r.next, r.given, 0)
	if s.OK {
		r.mask |= 1 << r.next
	}
	r.state = toVisit
	return s, r.goOn()
}

// goOn: to the next place, or the task has ended.
func (r *reaping) goOn() int {
	if r.next++; r.next < r.room {
		return turn.Going
	}
	r.told = api.Answer{OK: true, Val: r.mask}
	return turn.Ended
}
