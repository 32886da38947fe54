package tally_test

import (
	"iter"
	"math"
	"slices"
	"testing"

	"midden/api"
	"midden/cells"
	"midden/tally"
	"midden/turn"
)

// A source makes numbers, always the same ones.
type source uint64

func (s *source) below(n int) int {
	*s = *s*6364136223846793005 + 1442695040888963407
	return int(uint64(*s) >> 33 % uint64(n))
}

// ends are numbers at both ends of their type, and those below 0 that come first.
var ends = [...]int{math.MinInt, math.MinInt + 1, -2, -1, math.MaxInt - 1, math.MaxInt}

// values are few, so that a Most is often met, and near to the top, so that sums pass 2^64.
var values = [...]uint64{0, 0, 1, 2, 3, 4, 5, 6, 7, 1 << 32, 1<<63 - 1, 1 << 63, math.MaxUint64 - 1, math.MaxUint64}

func (s *source) value() uint64 { return values[s.below(len(values))] }

func (s *source) words(room int) []uint64 {
	out := make([]uint64, 2*room)
	for i := range out {
		out[i] = s.value()
	}
	return out
}

func (s *source) schedule(n int) []int {
	out := make([]int, n)
	for i := range out {
		if out[i] = s.below(40) - 20; s.below(8) == 0 {
			out[i] = ends[s.below(len(ends))]
		}
	}
	return out
}

// jobs: up to most for each hand, of all kinds and places; some hands have none. What a kind doesn't use is any number.
func (s *source) jobs(hands, most, room int, value func() uint64) [][]api.Job {
	out := make([][]api.Job, hands)
	for h := range out {
		for range s.below(most + 1) {
			j := api.Job{Kind: tally.Count + s.below(3), A: s.below(room), B: ends[s.below(len(ends))], C: s.below(9), H: value()}
			if j.Kind == tally.Sum {
				j.A = ends[s.below(len(ends))]
			}
			out[h] = append(out[h], j)
		}
	}
	return out
}

func count(stripe int, h uint64) api.Job { return api.Job{Kind: tally.Count, A: stripe, H: h} }
func most(place int, h uint64) api.Job   { return api.Job{Kind: tally.Most, A: place, H: h} }

var sum = api.Job{Kind: tally.Sum}

// A routine is a job as plain code that stands still ahead of each act. It is a task too, so that turn can play it.
type routine struct {
	hand int
	act  api.Step // the next one, as cells.Script takes it
	made api.Step // the step that the last one made
	told api.Answer
	pull func() (api.Step, bool)
	stop func()
}

func begin(room, hand int, j api.Job) *routine {
	r := &routine{hand: hand}
	r.pull, r.stop = iter.Pull(r.acts(room, j))
	r.act, _ = r.pull()
	return r
}

// acts is the chapter's table: one act behind the other, and what the job tells in the end.
func (r *routine) acts(room int, j api.Job) iter.Seq[api.Step] {
	return func(yield func(api.Step) bool) {
		switch j.Kind {
		case tally.Count:
			yield(api.Step{Act: api.Add, At: j.A, Put: j.H})
			r.told = api.Answer{OK: true, Val: r.made.Put}
		case tally.Sum:
			total := uint64(0)
			for i := range room {
				if !yield(api.Step{Act: api.Load, At: i}) {
					return
				}
				total += r.made.Had
			}
			r.told = api.Answer{OK: true, Val: total}
		case tally.Most:
			for yield(api.Step{Act: api.Load, At: room + j.A}) {
				w := r.made.Had
				if w >= j.H {
					r.told = api.Answer{Val: w}
					return
				}
				if !yield(api.Step{Act: api.CAS, At: room + j.A, Had: w, Put: j.H}) {
					return
				}
				if r.made.OK {
					r.told = api.Answer{OK: true, Val: j.H}
					return
				}
			}
		}
	}
}

func (r *routine) Step(m *cells.Mem) (api.Step, int) {
	r.made = m.Do(r.hand, r.act.Act, r.act.At, r.act.Had, r.act.Put)
	next, more := r.pull()
	r.act = next
	if more {
		return r.made, turn.Going
	}
	return r.made, turn.Ended
}

func (r *routine) Answer() api.Answer { return r.told }

// model is the run by the schedule of the jobs as plain code.
func model(t *testing.T, words []uint64, hands [][]api.Job, schedule []int, most int) (api.Trace, [][]api.Answer) {
	t.Helper()
	var begun []*routine
	x, a, e := turn.Play(words, hands, schedule, most, func(hand int, j api.Job) (turn.Task, api.Errno) {
		r := begin(len(words)/2, hand, j)
		begun = append(begun, r)
		return r, api.OK
	})
	for _, r := range begun {
		r.stop()
	}
	if e != api.OK {
		t.Fatal(e)
	}
	return x, a
}

// holdRun fails, if the run by the schedule is not what the plain code makes of it.
func holdRun(t *testing.T, words []uint64, hands [][]api.Job, schedule []int, most int) (api.Trace, [][]api.Answer) {
	t.Helper()
	x, a, e := tally.Play(api.Shape{Room: len(words) / 2}, words, hands, schedule, most)
	wantX, wantA := model(t, words, hands, schedule, most)
	if e != api.OK || !sameTrace(x, wantX) || !sameAnswers(a, wantA) {
		t.Fatalf("%v %v %v %d: %v %v %v; want %v %v", words, hands, schedule, most, x, a, e, wantX, wantA)
	}
	return x, a
}

// holdEnd fails, if the words behind a run that has ended are not what P5.2 promises.
func holdEnd(t *testing.T, before []uint64, hands [][]api.Job, after []uint64) {
	t.Helper()
	want := slices.Clone(before)
	room := len(before) / 2
	for _, jobs := range hands {
		for _, j := range jobs {
			switch j.Kind {
			case tally.Count:
				want[j.A] += j.H
			case tally.Most:
				want[room+j.A] = max(want[room+j.A], j.H)
			}
		}
	}
	if !slices.Equal(after, want) {
		t.Fatalf("%v: %v became %v; want %v", hands, before, after, want)
	}
}

// A span is a job's steps in a run: the first one's number and the last one's.
type span struct {
	hand, number int // which job it is
	first, last  int
	steps        int
}

// spans tells those of the jobs of this kind that have ended.
func spans(kind int, x api.Trace, hands [][]api.Job, room int) []span {
	var out []span
	under := make([]span, len(hands))
	for i, s := range x.Steps {
		u := &under[s.Hand]
		u.hand, u.last = s.Hand, i
		if u.steps == 0 {
			u.first = i
		}
		u.steps++
		j := hands[s.Hand][u.number]
		if !endsWith(j, s, u.steps, room) {
			continue
		}
		if j.Kind == kind {
			out = append(out, *u)
		}
		*u = span{number: u.number + 1}
	}
	return out
}

func endsWith(j api.Job, s api.Step, steps, room int) bool {
	switch {
	case j.Kind == tally.Sum:
		return steps == room
	case s.Act == api.CAS:
		return s.OK
	}
	return j.Kind == tally.Count || s.Had >= j.H
}

// schedules: all lists of so many numbers below n.
func schedules(n, length int) iter.Seq[[]int] {
	return func(yield func([]int) bool) {
		all := 1
		for range length {
			all *= n
		}
		for code := range all {
			list := make([]int, length)
			for i := range list {
				list[i], code = code%n, code/n
			}
			if !yield(list) {
				return
			}
		}
	}
}

func sameTrace(a, b api.Trace) bool {
	return slices.Equal(a.Steps, b.Steps) && slices.Equal(a.Words, b.Words) && a.Ended == b.Ended
}

func sameAnswers(a, b [][]api.Answer) bool { return slices.EqualFunc(a, b, slices.Equal) }
