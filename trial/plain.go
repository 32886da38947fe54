package trial

import (
	"midden/api"
	"midden/cells"
	"midden/turn"
)

// An Act does an act on the memory, and tells the step that it made.
type Act func(act, at int, old, v uint64) api.Step

// Load: the act that tables have most of.
func (a Act) Load(at int) uint64 { return a(api.Load, at, 0, 0).Had }

// Store, Add, CAS: likewise, with what is asked of them.
func (a Act) Store(at int, v uint64)         { a(api.Store, at, 0, v) }
func (a Act) Add(at int, v uint64)           { a(api.Add, at, 0, v) }
func (a Act) CAS(at int, old, v uint64) bool { return a(api.CAS, at, old, v).OK }

// A routine is a job as plain code, as a task. The code can't stand still between its acts: so with each step it goes
// from its beginning on, by the steps that were made so far, and is cut off behind the next one.
type routine struct {
	hand int
	code func(Act) api.Answer
	made []api.Step
	told api.Answer
}

// cut is what the code is left by.
type cut struct{}

func (r *routine) Step(m *cells.Mem) (api.Step, int) {
	before, passed := len(r.made), 0
	ended := r.walk(func(act, at int, old, v uint64) api.Step {
		if passed > before {
			panic(cut{})
		}
		if passed == before {
			r.made = append(r.made, m.Do(r.hand, act, at, old, v))
		}
		passed++
		return r.made[passed-1]
	})
	if ended {
		return r.made[before], turn.Ended
	}
	return r.made[before], turn.Going
}

// walk tells, whether the code came to its end.
func (r *routine) walk(act Act) (ended bool) {
	defer func() {
		if x := recover(); x != nil && x != (cut{}) {
			panic(x)
		}
	}()
	r.told = r.code(act)
	return true
}

func (r *routine) Answer() api.Answer { return r.told }
