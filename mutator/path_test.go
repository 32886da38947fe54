package mutator_test

import (
	"slices"
	"testing"

	"midden/api"
	"midden/mutator"
	"midden/trial"
)

// A path is what a job alone does, step by step, as a test writes it down; and what others do between its steps.
type path struct {
	t      *testing.T
	sh     api.Shape
	hand   int
	last   uint64 // what the hand has told last
	moment uint64 // by which the job goes
	words  []uint64
	steps  []api.Step
	amid   map[int]trial.Put
}

func (p *path) step(s api.Step) {
	p.steps = append(p.steps, s)
	if s.At >= 0 {
		p.words = with(p.words, s.At, s.Put)
	}
}

// load: what stands there, too.
func (p *path) load(at int) uint64 {
	w := uint64(0)
	if at >= 0 {
		w = p.words[at]
	}
	p.step(load(p.hand, at, w))
	return w
}
func (p *path) store(at int, v uint64) { p.step(store(p.hand, at, p.words[at], v)) }
func (p *path) cas(at int, v uint64)   { p.step(trial.CAS(p.hand, at, p.words[at], v)) }
func (p *path) lost(at int)            { p.step(trial.Lost(p.hand, at, p.words[at])) }

// other: what another hand puts there ahead of the next step.
func (p *path) other(at int, v uint64) {
	if p.amid == nil {
		p.amid = map[int]trial.Put{}
	}
	p.amid[len(p.steps)] = trial.Put{uint64(at), v}
	p.words = with(p.words, at, v)
}

// begin: the beginning, with what another hand does ahead of the step that tells; known: there is no such step.
func (p *path) begin() { p.beginAmid(func() {}) }
func (p *path) beginAmid(others func()) {
	p.moment = p.load(api.Phase)
	others()
	p.store(trial.AckAt(p.sh, p.hand), p.moment)
	p.last = p.moment
}
func (p *path) known() { p.moment = p.load(api.Phase) }

func (p *path) colour() int    { return int(p.moment / 8 % 2) }
func (p *path) isBarred() bool { return p.moment%8 > api.Idle && p.moment%8 < api.Sweep }

// into: the steps by which a handle goes into a word.
func (p *path) into(at int, h uint64) {
	if p.isBarred() {
		if old := p.load(at); old != 0 {
			p.shade(old)
		}
		if h != 0 {
			p.shade(h)
		}
	}
	p.store(at, h)
}
func (p *path) intoRoot(root int, h uint64) { p.into(trial.RootAt(p.sh, p.hand, root), h) }

func (p *path) shade(h uint64) {
	var steps []api.Step
	steps, p.words = trial.Shading(p.sh, p.words, p.hand, h, p.colour())
	p.steps = append(p.steps, steps...)
}

func (p *path) root(root int) uint64 { return p.load(trial.RootAt(p.sh, p.hand, root)) }
func (p *path) look(number int)      { p.load(trial.HeadAt(p.sh, number)) }

// object: the two steps at the object in a root, which is there.
func (p *path) object(root int) int {
	number := trial.Number(p.root(root))
	p.look(number)
	return number
}

// make: the six steps by which an object is made; lower is what stands in the lower half of its head then.
func (p *path) make(lower int) uint64 {
	free := p.load(api.Free)
	number := trial.Number(free)
	link := p.load(trial.LinkAt(p.sh, number))
	p.cas(api.Free, trial.Turned(free, trial.Number(link)))
	head := p.load(trial.HeadAt(p.sh, number))
	p.store(trial.HeadAt(p.sh, number), tagged(lower, trial.Upper(head)))
	p.count()
	return tagged(number, trial.Upper(head))
}
func (p *path) count() {
	p.step(trial.Add(p.hand, api.Allocated, p.words[api.Allocated], p.words[api.Allocated]+1))
}

// take: the four steps by which the first object of the queue is taken off it.
func (p *path) take() uint64 {
	queue := p.load(api.Queue)
	number := trial.Number(queue)
	next := p.load(trial.NextAt(p.sh, number))
	p.cas(api.Queue, trial.Turned(queue, trial.Number(next)))
	return tagged(number, trial.Upper(p.load(trial.HeadAt(p.sh, number))))
}

// hold fails, if the job doesn't go so from these words on, by a hand that has told that last; alone also by Play, where nothing was
// told and nobody is amid.
func (p *path) hold(words []uint64, told uint64, j api.Job, want api.Answer) {
	p.t.Helper()
	is := told
	k, e := mutator.Task(p.sh, p.hand, j, &is)
	if e != api.OK {
		p.t.Fatal(p.sh, p.hand, j, e)
	}
	steps, a, after := trial.Drive(p.t, k, words, p.amid)
	if !slices.Equal(steps, p.steps) || a != want || !slices.Equal(after, p.words) || is != p.last {
		p.t.Fatalf("%+v from %x, told %x: %v %v %x, told %x; want %v %v %x, told %x", j, words, told, steps, a, after, is, p.steps, want, p.words, p.last)
	}
	if told != never || p.amid != nil {
		return
	}
	hands, answers := make([][]api.Job, p.hand+1), make([][]api.Answer, p.hand+1)
	hands[p.hand], answers[p.hand] = []api.Job{j}, []api.Answer{want}
	mutators.HoldSteps(p.t, p.sh, words, hands, nil, p.steps, answers, p.words)
	play(p.t, p.sh, words, hands, nil, 100)
}
