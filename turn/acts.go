package turn

import (
	"midden/api"
	"midden/cells"
)

// Acts: Play with tasks that do just one act each (Kind: the act; A: the word; B, H: as told).
func Acts(words []uint64, hands [][]api.Job, schedule []int, most int) (api.Trace, [][]api.Answer, api.Errno) {
	return Play(words, hands, schedule, most, makeAct)
}

func makeAct(hand int, j api.Job) (Task, api.Errno) {
	if j.Kind < api.Load || j.Kind > api.CAS {
		return nil, api.ErrKind
	}
	return &act{hand: hand, job: j}, api.OK
}

// An act is a task of one step.
type act struct {
	hand int
	job  api.Job
	told api.Answer
}

func (a *act) Step(m *cells.Mem) (api.Step, int) {
	s := m.Do(a.hand, a.job.Kind, a.job.A, uint64(a.job.B), a.job.H)
	a.told = api.Answer{OK: s.OK, Val: s.Had}
	return s, Ended
}

func (a *act) Answer() api.Answer { return a.told }
