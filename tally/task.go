package tally

import (
	"midden/api"
	"midden/cells"
	"midden/turn"
)

// A counting is a Count under way.
type counting struct {
	hand, stripe int
	by           uint64
	told         api.Answer
}

func (c *counting) Answer() api.Answer { return c.told }

func (c *counting) Step(m *cells.Mem) (api.Step, int) {
	s := m.Do(c.hand, api.Add, c.stripe, 0, c.by)
	c.told = api.Answer{OK: true, Val: s.Put}
	return s, turn.Ended
}

// A summing is a Sum under way.
type summing struct {
	hand, stripes int
	next          int // the stripe to be loaded next
	sum           uint64
	told          api.Answer
}

func (u *summing) Answer() api.Answer { return u.told }

func (u *summing) Step(m *cells.Mem) (api.Step, int) {
	s := m.Do(u.hand, api.Load, u.next, 0, 0)
	u.sum += s.Had
	u.next++
	if u.next < u.stripes {
		return s, turn.Going
	}
	u.told = api.Answer{OK: true, Val: u.sum}
	return s, turn.Ended
}

// A raising is a Most under way.
type raising struct {
	hand, greatest int
	to             uint64
	seen           uint64
	loaded         bool // seen is what the CAS to come expects
	told           api.Answer
}

func (r *raising) Answer() api.Answer { return r.told }

func (r *raising) Step(m *cells.Mem) (api.Step, int) {
	if r.loaded {
		return r.raise(m)
	}
	return r.look(m)
}

func (r *raising) look(m *cells.Mem) (api.Step, int) {
	s := m.Do(r.hand, api.Load, r.greatest, 0, 0)
	if s.Had >= r.to {
		r.told = api.Answer{Val: s.Had}
		return s, turn.Ended
	}
	r.seen, r.loaded = s.Had, true
	return s, turn.Going
}

// raise: a CAS that isn't done tells what it found, but the table has it loaded anew all the same.
func (r *raising) raise(m *cells.Mem) (api.Step, int) {
	s := m.Do(r.hand, api.CAS, r.greatest, r.seen, r.to)
	if !s.OK {
		r.loaded = false
		return s, turn.Going
	}
	r.told = api.Answer{OK: true, Val: r.to}
	return s, turn.Ended
}
