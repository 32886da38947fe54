package bell

import (
	"midden/api"
	"midden/cells"
	"midden/turn"
)

// The words.
const (
	here  = 0
	round = 1
	size  = 2
)

// The states of the chapter's table, and one that has no act: there the ways part.
const (
	toLook = iota
	toCount
	toPart
	toClear
	toLetGo
	toWait
)

// A ringing is a Ring under way.
type ringing struct {
	hand  int
	all   uint64 // how many wait for one another
	state int
	mine  uint64 // the round, as it was when the Ring began
	rung  uint64 // how many have rung in it, this hand among them
	told  api.Answer
}

func (r *ringing) Answer() api.Answer { return r.told }

// Step goes around until a state has made its act.
func (r *ringing) Step(m *cells.Mem) (api.Step, int) {
	var s api.Step
around:
	for {
		switch r.state {
		case toLook:
			s = m.Do(r.hand, api.Load, round, 0, 0)
			r.mine, r.state = s.Had, toCount
			break around
		case toCount:
			s = m.Do(r.hand, api.Add, here, 0, 1)
			r.rung, r.state = s.Had+1, toPart // Put isn't that, where the memory has no such word
			break around
		case toPart:
			r.state = r.way()
			continue around
		case toClear: // ahead of letting go: who is let go counts from 0 on
			s = m.Do(r.hand, api.Store, here, 0, 0)
			r.state = toLetGo
			break around
		case toLetGo:
			s = m.Do(r.hand, api.Store, round, 0, r.mine+1)
			r.told = api.Answer{OK: true, Val: r.mine}
			return s, turn.Ended
		default:
			s = m.Do(r.hand, api.Load, round, 0, 0)
			if s.Had == r.mine {
				break around
			}
			r.told = api.Answer{Val: r.mine}
			return s, turn.Ended
		}
	}
	return s, turn.Going
}

// way: who rang last lets the others go.
func (r *ringing) way() int {
	if r.rung == r.all {
		return toClear
	}
	return toWait
}
