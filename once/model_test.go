package once_test

import (
	"iter"
	"math"
	"math/big"
	"slices"

	"midden/api"
	"midden/once"
)

// A source makes numbers, always the same ones.
type source uint64

func (s *source) below(n int) int {
	*s = *s*6364136223846793005 + 1442695040888963407
	return int(uint64(*s) >> 33 % uint64(n))
}

var ends = [...]int{math.MinInt, math.MinInt + 1, -2, -1, math.MaxInt - 1, math.MaxInt}

func (s *source) schedule(n int) []int {
	out := make([]int, n)
	for i := range out {
		if out[i] = s.below(40) - 20; s.below(8) == 0 {
			out[i] = ends[s.below(len(ends))]
		}
	}
	return out
}

// jobs: up to most for each hand, of all kinds and keys; some hands have none.
func (s *source) jobs(hands, most, room int) [][]api.Job {
	out := make([][]api.Job, hands)
	for h := range out {
		for range s.below(most + 1) {
			out[h] = append(out[h], api.Job{Kind: once.Do + s.below(3), A: s.below(room)})
		}
	}
	return out
}

// do makes one act, and tells the step that came of it.
type do func(act, at int, old, v uint64) api.Step

// plainJob is the chapter's tables as plain code, one call of act for each step.
func plainJob(room int, j api.Job, act do) api.Answer {
	load := func() uint64 { return act(api.Load, j.A, 0, 0).Had }
	if j.Kind == once.Seen {
		v := load()
		return api.Answer{OK: v == 2, Val: v}
	}
	if !act(api.CAS, j.A, 0, 1).OK {
		for load() != 2 {
		}
		return api.Answer{OK: true}
	}
	if j.Kind == once.Do {
		act(api.Add, room+j.A, 0, 1)
	}
	act(api.Store, j.A, 0, 2)
	return api.Answer{OK: j.Kind == once.Do, Val: 1}
}

// A routine is plain code that stands still between its acts.
type routine struct {
	pull func() (api.Step, bool)
	stop func()
	next api.Step // the act to come: Had is what a CAS expects
	made api.Step
	told api.Answer
}

type cut struct{}

func begin(room, hand int, j api.Job) *routine {
	r := &routine{}
	r.pull, r.stop = iter.Pull(func(yield func(api.Step) bool) {
		defer func() {
			if x := recover(); x != nil && x != (cut{}) {
				panic(x)
			}
		}()
		r.told = plainJob(room, j, func(act, at int, old, v uint64) api.Step {
			if !yield(api.Step{Hand: hand, Act: act, At: at, Had: old, Put: v}) {
				panic(cut{})
			}
			return r.made
		})
	})
	r.next, _ = r.pull()
	return r
}

// took goes on with the step that was made: has the job ended?
func (r *routine) took(s api.Step) bool {
	r.made = s
	next, more := r.pull()
	r.next = next
	return !more
}

// lay makes an act on plain words, and tells its step.
func lay(words []uint64, a api.Step) api.Step {
	s := api.Step{Hand: a.Hand, Act: a.Act, At: a.At, OK: true}
	if a.At < 0 || a.At >= len(words) {
		s.OK = a.Act != api.CAS
		return s
	}
	w := &words[a.At]
	s.Had = *w
	switch a.Act {
	case api.Store, api.Swap:
		*w = a.Put
	case api.Add:
		*w += a.Put
	case api.CAS:
		if s.OK = *w == a.Had; s.OK {
			*w = a.Put
		}
	}
	s.Put = *w
	return s
}

// among is pick modulo n, brought to 0 and above.
func among(pick, n int) int {
	return int(new(big.Int).Mod(big.NewInt(int64(pick)), big.NewInt(int64(n))).Int64())
}

// model is the run by the schedule, by DOC.md's words, on a plain list.
func model(words []uint64, hands [][]api.Job, schedule []int, most int) (api.Trace, [][]api.Answer) {
	room := len(words) / 2
	trace := api.Trace{Words: slices.Clone(words)}
	answers := make([][]api.Answer, len(hands))
	under := make([]*routine, len(hands))
	last := -1
	for {
		var on []int
		for h := range hands {
			if len(answers[h]) < len(hands[h]) {
				on = append(on, h)
			}
		}
		trace.Ended = len(on) == 0
		if trace.Ended || len(trace.Steps) == most {
			stopAll(under)
			return trace, answers
		}
		i, _ := slices.BinarySearch(on, last+1)
		h := on[i%len(on)]
		if n := len(trace.Steps); n < len(schedule) {
			h = on[among(schedule[n], len(on))]
		}
		if under[h] == nil {
			under[h] = begin(room, h, hands[h][len(answers[h])])
		}
		s := lay(trace.Words, under[h].next)
		trace.Steps, last = append(trace.Steps, s), h
		if under[h].took(s) {
			answers[h], under[h] = append(answers[h], under[h].told), nil
		}
	}
}

func stopAll(under []*routine) {
	for _, r := range under {
		if r != nil {
			r.stop()
		}
	}
}

// schedules: all lists of so many numbers below n.
func schedules(n, length int) iter.Seq[[]int] {
	return func(yield func([]int) bool) {
		list := make([]int, length)
		for {
			if !yield(list) {
				return
			}
			i := 0
			for i < length && list[i] == n-1 {
				list[i] = 0
				i++
			}
			if i == length {
				return
			}
			list[i]++
		}
	}
}

func sameTrace(a, b api.Trace) bool {
	return slices.Equal(a.Steps, b.Steps) && slices.Equal(a.Words, b.Words) && a.Ended == b.Ended
}

func sameAnswers(a, b [][]api.Answer) bool { return slices.EqualFunc(a, b, slices.Equal) }

func handsOf(t api.Trace) string {
	s := ""
	for _, x := range t.Steps {
		s += string(rune('0' + x.Hand))
	}
	return s
}
