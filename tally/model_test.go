package tally_test

import (
	"math"
	"slices"
	"testing"

	"midden/api"
	"midden/tally"
	"midden/trial"
)

var tallies = trial.Layer{Size: tally.Size, Fresh: tally.Fresh, Task: tally.Task, Play: tally.Play, Free: tally.Free, Table: table}

// values are few, so that a Most is often met, and near to the top, so that sums pass 2^64.
var values = [...]uint64{0, 0, 1, 2, 3, 4, 5, 6, 7, 1 << 32, 1<<63 - 1, 1 << 63, math.MaxUint64 - 1, math.MaxUint64}

// A source makes a tally's words and jobs.
type source struct{ trial.Source }

func newSource(n uint64) *source { return &source{trial.Source(n)} }

func (s *source) value() uint64 { return values[s.Below(len(values))] }

func (s *source) words(room int) []uint64 {
	out := make([]uint64, 2*room)
	for i := range out {
		out[i] = s.value()
	}
	return out
}

// jobs: of all kinds and places. What a kind doesn't use is any number.
func (s *source) jobs(hands, most, room int, value func() uint64) [][]api.Job {
	return s.Jobs(hands, most, func() api.Job {
		j := api.Job{Kind: tally.Count + s.Below(3), A: s.Below(room), B: s.End(), C: s.Below(9), H: value()}
		if j.Kind == tally.Sum {
			j.A = s.End()
		}
		return j
	})
}

func count(stripe int, h uint64) api.Job { return api.Job{Kind: tally.Count, A: stripe, H: h} }
func most(place int, h uint64) api.Job   { return api.Job{Kind: tally.Most, A: place, H: h} }

var sum = api.Job{Kind: tally.Sum}

// table is the chapter's tables as plain code.
func table(sh api.Shape, _ int, j api.Job, act trial.Act) api.Answer {
	switch j.Kind {
	case tally.Count:
		return trial.Told(act(api.Add, j.A, 0, j.H).Put)
	case tally.Sum:
		total := uint64(0)
		for i := range sh.Room {
			total += act.Load(i)
		}
		return trial.Told(total)
	}
	for {
		w := act.Load(sh.Room + j.A)
		if w >= j.H {
			return api.Answer{Val: w}
		}
		if act.CAS(sh.Room+j.A, w, j.H) {
			return trial.Told(j.H)
		}
	}
}

// holdRun, holdSteps: the layer's own, with as much room as the words are for.
func holdRun(t *testing.T, words []uint64, hands [][]api.Job, schedule []int, most int) (api.Trace, [][]api.Answer) {
	t.Helper()
	return tallies.HoldRun(t, api.Shape{Room: len(words) / 2}, words, hands, schedule, most)
}
func holdSteps(t *testing.T, words []uint64, hands [][]api.Job, schedule []int, steps []api.Step, answers [][]api.Answer, after []uint64) {
	t.Helper()
	tallies.HoldSteps(t, api.Shape{Room: len(words) / 2}, words, hands, schedule, steps, answers, after)
}

// holdEnd fails, if the words behind a run that has ended are not what P5.2 promises.
func holdEnd(t *testing.T, before []uint64, hands [][]api.Job, after []uint64) {
	t.Helper()
	want := slices.Clone(before)
	room := len(before) / 2
	for _, jobs := range hands {
		for _, j := range jobs {
			switch j.Kind {
			case tally.Count:
				want[j.A] += j.H
			case tally.Most:
				want[room+j.A] = max(want[room+j.A], j.H)
			}
		}
	}
	if !slices.Equal(after, want) {
		t.Fatalf("%v: %v became %v; want %v", hands, before, after, want)
	}
}

// A span is a job's steps in a run: the first one's number and the last one's.
type span struct {
	hand, number int // which job it is
	first, last  int
	steps        int
}

// spans tells those of the jobs of this kind that have ended.
func spans(kind int, x api.Trace, hands [][]api.Job, room int) []span {
	var out []span
	under := make([]span, len(hands))
	for i, s := range x.Steps {
		u := &under[s.Hand]
		u.hand, u.last = s.Hand, i
		if u.steps == 0 {
			u.first = i
		}
		u.steps++
		j := hands[s.Hand][u.number]
		if !endsWith(j, s, u.steps, room) {
			continue
		}
		if j.Kind == kind {
			out = append(out, *u)
		}
		*u = span{number: u.number + 1}
	}
	return out
}

func endsWith(j api.Job, s api.Step, steps, room int) bool {
	switch {
	case j.Kind == tally.Sum:
		return steps == room
	case s.Act == api.CAS:
		return s.OK
	}
	return j.Kind == tally.Count || s.Had >= j.H
}
