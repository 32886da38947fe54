// Package trial holds what the tests of the layers do alike: a layer of tasks is held against its chapter's tables as
// plain code, and against the rules that all layers share; heaps' shapes and views are made and held against one another.
// The program itself doesn't call it.
package trial

import (
	"slices"

	"midden/api"
	"midden/cells"
	"midden/turn"
)

// A T is who is told what doesn't hold: a test.
type T interface {
	Helper()
	Errorf(format string, args ...any)
	Fatalf(format string, args ...any)
}

// A Layer is a layer of tasks: its calls, and its tables as plain code.
type Layer struct {
	Size  func(sh api.Shape) (int, api.Errno)
	Fresh func(sh api.Shape) ([]uint64, api.Errno)
	Task  Maker
	Play  func(sh api.Shape, words []uint64, hands [][]api.Job, schedule []int, most int) (api.Trace, [][]api.Answer, api.Errno)
	Free  func(sh api.Shape, hands [][]api.Job) ([]uint64, [][]api.Answer, api.Errno)
	Table Table

	// Anew: of a layer whose hands keep something from job to job, the Task and the Table of one run, with nothing kept yet.
	Anew func() (Maker, Table)
}

// A Maker makes the task of a hand's job. A Table is what the job does, as plain code.
type (
	Maker func(sh api.Shape, hand int, j api.Job) (turn.Task, api.Errno)
	Table func(sh api.Shape, hand int, j api.Job, act Act) api.Answer
)

// anew: the layer as it is for one run.
func (l Layer) anew() Layer {
	if l.Anew != nil {
		l.Task, l.Table = l.Anew()
	}
	return l
}

// Model: the run by the schedule of the tables as plain code.
func (l Layer) Model(sh api.Shape, words []uint64, hands [][]api.Job, schedule []int, most int) (api.Trace, [][]api.Answer, api.Errno) {
	l = l.anew()
	return turn.Play(words, hands, schedule, most, func(hand int, j api.Job) (turn.Task, api.Errno) {
		return l.plain(sh, hand, j), api.OK
	})
}

func (l Layer) plain(sh api.Shape, hand int, j api.Job) turn.Task {
	return &routine{hand: hand, code: func(act Act) api.Answer { return l.Table(sh, hand, j, act) }}
}

// HoldRun fails, if the run by the schedule is not what the tables make of it.
func (l Layer) HoldRun(t T, sh api.Shape, words []uint64, hands [][]api.Job, schedule []int, most int) (api.Trace, [][]api.Answer) {
	t.Helper()
	x, a, e := l.Play(sh, words, hands, schedule, most)
	wantX, wantA, wantE := l.Model(sh, words, hands, schedule, most)
	if e != wantE || !SameTrace(x, wantX) || !SameAnswers(a, wantA) {
		t.Fatalf("%v %v %v %v %d: %v %v %v; want %v %v %v", sh, words, hands, schedule, most, x, a, e, wantX, wantA, wantE)
	}
	return x, a
}

// HoldSteps fails, if the run by the schedule, to its end, does not give just these steps, answers and words.
func (l Layer) HoldSteps(t T, sh api.Shape, words []uint64, hands [][]api.Job, schedule []int, steps []api.Step, answers [][]api.Answer, after []uint64) {
	t.Helper()
	x, a, e := l.Play(sh, words, hands, schedule, len(steps)+1)
	want := api.Trace{Steps: steps, Words: after, Ended: true}
	if e != api.OK || !SameTrace(x, want) || !SameAnswers(a, answers) {
		t.Errorf("%v %v %v: %v %v %v; want %v %v", words, hands, schedule, x, a, e, want, answers)
	}
}

// HoldTask fails, if a task alone, on a memory by hand, doesn't go as the tables do. One that hasn't ended behind most
// steps is left there (on a memory that lacks words it may go on for ever). Nil words stand for a nil memory.
func (l Layer) HoldTask(t T, sh api.Shape, hand int, j api.Job, words []uint64, most int) {
	t.Helper()
	l.HoldTaskAmid(t, sh, hand, j, words, most, func(int) []api.Step { return nil })
}

// HoldTaskAmid is HoldTask with acts of others: ahead of the step i those that amid(i) tells are made.
func (l Layer) HoldTaskAmid(t T, sh api.Shape, hand int, j api.Job, words []uint64, most int, amid func(i int) []api.Step) {
	t.Helper()
	l = l.anew()
	k, e := l.Task(sh, hand, j)
	if e != api.OK {
		t.Fatalf("%v, hand %d, %v: %v", sh, hand, j, e)
	}
	var m, plain *cells.Mem
	if words != nil {
		m, _ = cells.New(words)
		plain, _ = cells.New(words)
	}
	r := l.plain(sh, hand, j)
	for i := range most {
		for _, a := range amid(i) {
			m.Do(a.Hand, a.Act, a.At, a.Had, a.Put)
			plain.Do(a.Hand, a.Act, a.At, a.Had, a.Put)
		}
		s, state := k.Step(m)
		wantS, wantState := r.Step(plain)
		if s != wantS || state != wantState || s.Hand != hand || !slices.Equal(m.Words(), plain.Words()) {
			t.Fatalf("%v of hand %d on %v, step %d: %+v, %d; want %+v, %d", j, hand, words, i, s, state, wantS, wantState)
		}
		if state != turn.Ended {
			continue
		}
		if k.Answer() != r.Answer() {
			t.Fatalf("%v of hand %d on %v: %v; want %v", j, hand, words, k.Answer(), r.Answer())
		}
		return
	}
}

// SameTrace, SameAnswers: nil lists and empty ones are the same.
func SameTrace(a, b api.Trace) bool {
	return slices.Equal(a.Steps, b.Steps) && slices.Equal(a.Words, b.Words) && a.Ended == b.Ended
}
func SameAnswers(a, b [][]api.Answer) bool { return slices.EqualFunc(a, b, slices.Equal) }
