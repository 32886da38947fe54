package final_test

import (
	"slices"
	"testing"

	"midden/api"
	"midden/final"
	"midden/mark"
	"midden/trial"
)

// A path is what a job alone does, step by step, as a test writes it down; and what others do between its steps.
type path struct {
	t      *testing.T
	sh     api.Shape
	hand   int
	colour int
	words  []uint64
	steps  []api.Step
	amid   map[int]trial.Put
	taken  []int  // by a Call
	wiped  uint64 // by a Clear
}

func (p *path) step(s api.Step) {
	p.steps = append(p.steps, s)
	p.words = with(p.words, s.At, s.Put)
}

func (p *path) load(at int)            { p.step(load(p.hand, at, p.words[at])) }
func (p *path) store(at int, v uint64) { p.step(trial.Store(p.hand, at, p.words[at], v)) }
func (p *path) cas(at int, v uint64)   { p.step(trial.CAS(p.hand, at, p.words[at], v)) }
func (p *path) lost(at int)            { p.step(trial.Lost(p.hand, at, p.words[at])) }

// other: what another hand puts there ahead of the next step.
func (p *path) other(at int, v uint64) {
	if p.amid == nil {
		p.amid = map[int]trial.Put{}
	}
	p.amid[len(p.steps)] = trial.Put{uint64(at), v}
	p.words = with(p.words, at, v)
}

// weak: the step at a weak word that shows no object that is there. judge: the two steps at one that shows one which isn't white.
// wipe: the three steps at one that shows a white object.
func (p *path) weak(weak int) { p.load(trial.WeakAt(p.sh, weak)) }
func (p *path) judge(weak int) {
	p.weak(weak)
	p.look(trial.Number(p.words[trial.WeakAt(p.sh, weak)]))
}
func (p *path) wipe(weak int) {
	p.judge(weak)
	p.cas(trial.WeakAt(p.sh, weak), 0)
	p.wiped++
}

// look: the step at an object's head. take: the two steps at one that is taken.
func (p *path) look(number int) { p.load(trial.HeadAt(p.sh, number)) }
func (p *path) take(number int) {
	p.look(number)
	at := trial.HeadAt(p.sh, number)
	p.cas(at, p.words[at]^2+8)
	p.taken = append(p.taken, number)
}

// lay: the three steps that put an object on a list; behindAt is where it shows the one behind it.
func (p *path) lay(list, behindAt, number int) {
	head := p.words[list]
	p.load(list)
	p.store(behindAt, head%half)
	p.cas(list, trial.Turned(head, number))
}
func (p *path) grey(number int) { p.lay(api.Grey, trial.LinkAt(p.sh, number), number) }

// queue: the four steps of each object on its way to the queue.
func (p *path) queue(number int) {
	p.lay(api.Queue, trial.NextAt(p.sh, number), number)
	p.count()
}
func (p *path) count() {
	p.step(trial.Add(p.hand, api.Queued, p.words[api.Queued], p.words[api.Queued]+1))
}

// rest: the steps of layer 20's Drain.
func (p *path) rest() {
	p.t.Helper()
	hands := make([][]api.Job, p.hand+1)
	hands[p.hand] = []api.Job{{Kind: mark.Drain, C: p.colour}}
	x, _, e := mark.Play(p.sh, p.words, hands, nil, api.MaxSteps)
	if e != api.OK || !x.Ended {
		p.t.Fatal(e, x.Ended, p.words)
	}
	p.steps = append(p.steps, x.Steps...)
	p.words = x.Words
}

// restAndQueue: all that comes behind the last object of a Call.
func (p *path) restAndQueue() {
	p.t.Helper()
	p.rest()
	for _, number := range p.taken {
		p.queue(number)
	}
}

// call: all of a Call that takes just these objects.
func (p *path) call(numbers ...int) {
	p.t.Helper()
	for number := 1; number <= p.sh.Objects; number++ {
		if slices.Contains(numbers, number) {
			p.take(number)
			p.grey(number)
		} else {
			p.look(number)
		}
	}
	p.restAndQueue()
}

// holdClear, holdCall, holdDue fail, if that job, by the path's hand alone, doesn't go so from these words on.
func (p *path) holdClear(words []uint64) {
	p.t.Helper()
	p.hold(words, clearOf(p.colour), told(p.wiped))
}
func (p *path) holdCall(words []uint64) {
	p.t.Helper()
	p.hold(words, callOf(p.colour), told(uint64(len(p.taken))))
}
func (p *path) holdDue(words []uint64, want api.Answer) {
	p.t.Helper()
	p.hold(words, api.Job{Kind: final.Due, C: 7}, want)
}

func (p *path) hold(words []uint64, j api.Job, want api.Answer) {
	p.t.Helper()
	hands, answers := make([][]api.Job, p.hand+1), make([][]api.Answer, p.hand+1)
	hands[p.hand], answers[p.hand] = []api.Job{j}, []api.Answer{want}
	finals.HoldSteps(p.t, p.sh, words, hands, nil, p.steps, answers, p.words)
	play(p.t, p.sh, words, hands, nil, api.MaxSteps)
}
