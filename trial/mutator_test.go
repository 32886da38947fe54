package trial_test

import (
	"math"
	"slices"
	"testing"

	"midden/api"
	"midden/cells"
	"midden/shape"
	"midden/trial"
	"midden/turn"
)

// hands is layer 23's table as a layer; in each run its hands have told nothing at first.
func hands() trial.Layer {
	l := trial.Layer{Anew: func() (trial.Maker, trial.Table) {
		last := slices.Repeat([]uint64{math.MaxUint64}, 3)
		return nil, func(sh api.Shape, hand int, j api.Job, act trial.Act) api.Answer {
			if j.Kind == 0 {
				return trial.ByeOf(sh, hand, act)
			}
			return trial.Mutating(sh, hand, j, &last[hand], act)
		}
	}}
	l.Play = l.Model
	return l
}

// Layer 23's tables, on its chapter's examples, with the barrier, and in Close. The ack is the word 8, the roots are 9 and 10, the weak
// word is 11, the heads are 12 and 16.
func TestMutating(t *testing.T) {
	sh := api.Shape{Objects: 2, Slots: 1, Hands: 1, Roots: 2, Weaks: 1}
	tagged, load, store := trial.Tagged, trial.Load, trial.Store
	fresh, _ := shape.Fresh(sh)
	hold := func(words []uint64, jobs []api.Job, want []api.Answer, after []uint64, steps ...api.Step) {
		t.Helper()
		hands().HoldSteps(t, sh, words, [][]api.Job{jobs}, nil, steps, [][]api.Answer{want}, after)
	}
	poll, ok := api.Job{Kind: api.Poll}, trial.Told
	hold(fresh, []api.Job{poll, poll, {}}, []api.Answer{ok(0), ok(0), ok(0)}, trial.With(fresh, 8, math.MaxUint64),
		load(0, 0, 0), store(0, 8, 0, 0), load(0, 0, 0), store(0, 8, 0, math.MaxUint64))
	hold(trial.With(fresh, 0, math.MaxUint64), []api.Job{poll, poll}, []api.Answer{ok(math.MaxUint64), ok(math.MaxUint64)}, trial.Puts(fresh, 0, math.MaxUint64, 8, math.MaxUint64),
		load(0, 0, math.MaxUint64), store(0, 8, 0, math.MaxUint64), load(0, 0, math.MaxUint64), store(0, 8, math.MaxUint64, math.MaxUint64))
	hold(fresh, []api.Job{{Kind: api.New}, {Kind: api.Put}, {Kind: api.Get, C: 1}, {Kind: api.Drop}, {Kind: api.Get}}, []api.Answer{ok(1), ok(1), ok(1), ok(0), {}},
		trial.Puts(fresh, 1, tagged(2, 1), 4, 1, 10, 1, 12, 1, 15, 1),
		load(0, 0, 0), store(0, 8, 0, 0),
		load(0, 1, 1), load(0, 13, 2), trial.CAS(0, 1, 1, tagged(2, 1)), load(0, 12, 0), store(0, 12, 0, 1), trial.Add(0, 4, 0, 1), store(0, 9, 0, 1),
		load(0, 0, 0), load(0, 9, 1), load(0, 12, 1), load(0, 9, 1), store(0, 15, 0, 1),
		load(0, 0, 0), load(0, 9, 1), load(0, 12, 1), load(0, 15, 1), store(0, 10, 0, 1),
		load(0, 0, 0), store(0, 9, 1, 0), load(0, 0, 0), load(0, 9, 0))
	gone := trial.Puts(fresh, 1, 0, 9, tagged(1, 1), 12, 1)
	hold(gone, []api.Job{{Kind: api.New, B: 1}, {Kind: api.Put, C: -1}, {Kind: api.Copy, C: 1}, {Kind: api.GetWeak}}, []api.Answer{{}, {}, ok(tagged(1, 1)), {}}, trial.With(gone, 10, tagged(1, 1)),
		load(0, 0, 0), store(0, 8, 0, 0), load(0, 1, 0), load(0, 0, 0), load(0, 9, tagged(1, 1)), load(0, 12, 1),
		load(0, 0, 0), load(0, 9, tagged(1, 1)), store(0, 10, 0, tagged(1, 1)), load(0, 0, 0), load(0, 11, 0))
	// In Mark with the colour 1: what is overwritten is shaded, and what is stored; the queue is 1.
	const mark, closed = 0x70a, 0x30b
	marking := trial.Puts(fresh, 0, mark, 1, 2, 3, 1, 9, 1, 12, 5, 15, 1)
	hold(marking, []api.Job{{Kind: api.Put, C: -1}, {Kind: api.MakeWeak}, {Kind: api.GetWeak, C: 1}, {Kind: api.Take, C: 1}, {Kind: api.New, A: 1, B: 1}}, []api.Answer{ok(0), ok(1), ok(1), ok(1), ok(2)},
		trial.Puts(marking, 1, tagged(0, 1), 2, tagged(1, 1), 3, tagged(0, 1), 4, 1, 8, mark, 10, 2, 11, 1, 12, 7, 13, 0, 15, 0, 16, 7),
		load(0, 0, mark), store(0, 8, 0, mark), load(0, 9, 1), load(0, 12, 5), load(0, 15, 1),
		load(0, 12, 5), trial.CAS(0, 12, 5, 7), load(0, 2, 0), store(0, 13, 2, 0), trial.CAS(0, 2, 0, tagged(1, 1)), store(0, 15, 1, 0),
		load(0, 0, mark), load(0, 9, 1), store(0, 11, 0, 1),
		load(0, 0, mark), load(0, 11, 1), load(0, 12, 7), load(0, 10, 0), load(0, 12, 7), store(0, 10, 0, 1),
		load(0, 0, mark), load(0, 3, 1), load(0, 14, 0), trial.CAS(0, 3, 1, tagged(0, 1)), load(0, 12, 7), load(0, 10, 1), load(0, 12, 7), load(0, 12, 7), store(0, 10, 1, 1),
		load(0, 0, mark), load(0, 1, 2), load(0, 17, 0), trial.CAS(0, 1, 2, tagged(0, 1)), load(0, 16, 0), store(0, 16, 0, 7), trial.Add(0, 4, 0, 1),
		load(0, 10, 1), load(0, 12, 7), load(0, 16, 7), store(0, 10, 1, 2))
	// In Close it begins again as long as the object is white; the phase isn't told once more.
	closing := trial.Puts(fresh, 0, closed, 11, 1, 12, 1)
	x, a, e := hands().Model(sh, closing, [][]api.Job{{{Kind: api.GetWeak}}}, nil, 8)
	steps := []api.Step{load(0, 0, closed), store(0, 8, 0, closed), load(0, 11, 1), load(0, 12, 1), load(0, 0, closed), load(0, 11, 1), load(0, 12, 1), load(0, 0, closed)}
	if e != api.OK || x.Ended || len(a[0]) > 0 || !slices.Equal(x.Steps, steps) {
		t.Error(e, x, a)
	}
	// Two hands tell each for itself.
	two := api.Shape{Objects: 1, Hands: 2, Roots: 1}
	words := make([]uint64, trial.SizeOf(two))
	hands().HoldSteps(t, two, words, [][]api.Job{{poll, poll}, {poll}}, nil, []api.Step{
		load(0, 0, 0), load(1, 0, 0), store(0, 8, 0, 0), store(1, 9, 0, 0), load(0, 0, 0),
	}, [][]api.Answer{{ok(0), ok(0)}, {ok(0)}}, words)
}

// Chapter 26's examples, and each job where there is nothing.
func TestAlone(t *testing.T) {
	sh := api.Shape{Objects: 3, Slots: 1, Hands: 1, Roots: 2}
	jobs := []api.Job{{Kind: api.New}, {Kind: api.New, A: 1, B: 1}, {Kind: api.Put, C: 1}, {Kind: api.Drop, A: 1}, {Kind: api.Get, C: 1}}
	ok := trial.Told
	hold := func(jobs []api.Job, nodes [][]int, roots []int, told ...api.Answer) {
		t.Helper()
		n, r, a := trial.Alone(sh, jobs)
		if !slices.EqualFunc(n, nodes, slices.Equal) || !slices.Equal(r, roots) || !slices.Equal(a, told) {
			t.Error(jobs, n, r, a)
		}
	}
	hold(jobs[:4], [][]int{{1}, {-1}}, []int{0, -1}, ok(1), ok(2), ok(2), ok(0))
	hold(jobs, [][]int{{1}, {-1}}, []int{0, 1}, ok(1), ok(2), ok(2), ok(0), ok(2))
	hold(jobs[4:], nil, []int{-1, -1}, api.Answer{})
	hold([]api.Job{{Kind: api.New}, {Kind: api.New}}, [][]int{{-1}, {-1}}, []int{1, -1}, ok(1), ok(2))
	hold([]api.Job{{Kind: api.Put, C: -1}, {Kind: api.Copy, A: 1}, {Kind: api.Drop}, {Kind: api.Poll}}, nil, []int{-1, -1}, api.Answer{}, ok(0), ok(0), ok(0))
	hold([]api.Job{{Kind: api.New}, {Kind: api.Copy, C: 1}, {Kind: api.Put, A: 1}, {Kind: api.Poll}, {Kind: api.Get, A: 1}, {Kind: api.Put, C: -1}, {Kind: api.Get, C: 1}, {Kind: api.Put, C: 1}},
		[][]int{{-1}}, []int{0, -1}, ok(1), ok(1), ok(1), ok(0), ok(1), ok(0), ok(0), ok(0))
}

// counted is the layer on trial, whose hands keep how many jobs they have done: a job tells that, too, in each run from 0 on.
func counted() trial.Layer {
	l := sound()
	l.Free = nil
	l.Anew = func() (trial.Maker, trial.Table) {
		real, plain := make([]uint64, 8), make([]uint64, 8)
		maker := func(sh api.Shape, hand int, j api.Job) (turn.Task, api.Errno) {
			k, e := task(sh, hand, j)
			if k == nil {
				return nil, e
			}
			return &counting{k, &real[hand], 0}, e
		}
		return maker, func(sh api.Shape, hand int, j api.Job, act trial.Act) api.Answer {
			a := table(sh, hand, j, act)
			a.Val = a.Val*100 + plain[hand]
			plain[hand]++
			return a
		}
	}
	l.Play = func(sh api.Shape, words []uint64, hands [][]api.Job, schedule []int, most int) (api.Trace, [][]api.Answer, api.Errno) {
		maker, _ := l.Anew()
		return turn.Play(words, hands, schedule, most, func(hand int, j api.Job) (turn.Task, api.Errno) { return maker(sh, hand, j) })
	}
	return l
}

type counting struct {
	turn.Task
	done *uint64
	was  uint64
}

func (k *counting) Step(m *cells.Mem) (api.Step, int) {
	s, state := k.Task.Step(m)
	if state == turn.Ended {
		k.was = *k.done
		*k.done++
	}
	return s, state
}

func (k *counting) Answer() api.Answer { return trial.Told(k.Task.Answer().Val*100 + k.was) }

// What hands keep from job to job begins anew with each run, and with each task alone; it is heard, if it doesn't.
func TestAnew(t *testing.T) {
	sh, words := api.Shape{Room: 2}, []uint64{4, 5}
	jobs := [][]api.Job{{add(1), add(2), {Kind: 1, A: 1, H: 3}}, {add(3), add(4)}}
	hold := func(t trial.T, l trial.Layer) {
		for schedule := range trial.Lists(2, 5) {
			l.HoldRun(t, sh, words, jobs, schedule, 30)
		}
		l.HoldTask(t, sh, 2, add(7), words, 9)
		l.HoldTask(t, sh, 2, add(7), words, 9)
		noted, _, a := l.Noted(t, sh, words, jobs, nil, 30)
		if len(noted) != 5 || a[0][2].Val != 502 {
			t.Errorf("%v", a)
		}
		ends := 0
		l.EveryOrder(t, sh, words, jobs, nil, func(schedule []int) {
			if x, _ := l.HoldRun(t, sh, words, jobs, schedule, len(schedule)); x.Ended {
				ends++
			}
		})
		if ends < 5 {
			t.Errorf("%d", ends)
		}
	}
	if hears(func(t trial.T) { hold(t, counted()) }) {
		t.Error("something was heard")
	}
	for _, isReal := range []bool{false, true} {
		l := counted()
		maker, plain := l.Anew()
		anew := l.Anew
		l.Anew = func() (trial.Maker, trial.Table) {
			newMaker, newPlain := anew()
			if isReal {
				return maker, newPlain
			}
			return newMaker, plain
		}
		if !hears(func(t trial.T) { hold(t, l) }) {
			t.Error("nothing was heard", isReal)
		}
	}
}
