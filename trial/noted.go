package trial

import (
	"midden/api"
	"midden/cells"
	"midden/turn"
)

// A Noted is a job of a run, with the steps that are its own, and when each of them was made.
type Noted struct {
	api.Job
	Hand, Number int // whose it is, and which one of that hand's jobs
	Steps        []api.Step
	When         []int // how many steps of the run were ahead of each
}

// Begin, End: when a job has made its first step, and its last one so far; -1, if it has made none.
func (n *Noted) Begin() int { return n.when(0) }
func (n *Noted) End() int   { return n.when(len(n.When) - 1) }

func (n *Noted) when(i int) int {
	if len(n.When) == 0 {
		return -1
	}
	return n.When[i]
}

// A noting is a task that writes its steps down in its job.
type noting struct {
	turn.Task
	job  *Noted
	made *int // steps of the run so far
}

func (n *noting) Step(m *cells.Mem) (api.Step, int) {
	s, state := n.Task.Step(m)
	n.job.Steps, n.job.When = append(n.job.Steps, s), append(n.job.When, *n.made)
	*n.made++
	return s, state
}

// Noted: the jobs of a run, hand by hand, with their steps. It fails, if Play doesn't make the same run of the same tasks.
func (l Layer) Noted(t T, sh api.Shape, words []uint64, hands [][]api.Job, schedule []int, most int) ([]*Noted, api.Trace, [][]api.Answer) {
	t.Helper()
	l = l.anew()
	var out []*Noted
	made, number := 0, make([]int, len(hands))
	x, a, e := turn.Play(words, hands, schedule, most, func(hand int, j api.Job) (turn.Task, api.Errno) {
		k, e := l.Task(sh, hand, j)
		out = append(out, &Noted{Job: j, Hand: hand, Number: number[hand]})
		number[hand]++
		return &noting{k, out[len(out)-1], &made}, e
	})
	y, b, f := l.Play(sh, words, hands, schedule, most)
	if e != api.OK || f != api.OK || !SameTrace(x, y) || !SameAnswers(a, b) {
		t.Fatalf("another run by Play: %+v %v %v: %v, %v", sh, hands, schedule, e, f)
	}
	return out, x, a
}
