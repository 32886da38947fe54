package belt_test

import (
	"math"
	"testing"

	"midden/api"
	"midden/belt"
	"midden/trial"
)

var belts = trial.Layer{Size: belt.Size, Fresh: belt.Fresh, Task: belt.Task, Play: belt.Play, Free: belt.Free, Table: table}

func room(n int) api.Shape { return api.Shape{Room: n} }

func give(v uint64) api.Job { return api.Job{Kind: belt.Give, H: v} }

var fetch = api.Job{Kind: belt.Fetch}

// The words, reckoned by the chapter alone.
const (
	tail = 0
	head = 1
)

func mark(n int, p uint64) int  { return 2 + int(p%uint64(n)) }
func value(n int, p uint64) int { return 2 + n + int(p%uint64(n)) }

// roomOf: how many places the words are for.
func roomOf(words []uint64) int { return len(words)/2 - 1 }

// behind, ahead: as signed numbers of 64 bits are held against 0, without any.
func behind(x, y uint64) bool { return x-y >= 1<<63 }
func ahead(x, y uint64) bool  { return x != y && !behind(x, y) }

// table is the chapter's tables as plain code.
func table(sh api.Shape, _ int, j api.Job, act trial.Act) api.Answer {
	if j.Kind == belt.Give {
		return giveTable(sh.Room, j.H, act)
	}
	return fetchTable(sh.Room, act)
}

func giveTable(n int, h uint64, act trial.Act) api.Answer {
	for {
		p := act.Load(tail)
		w := act.Load(mark(n, p))
		switch {
		case behind(w, 2*p):
			return api.Answer{}
		case ahead(w, 2*p) || !act.CAS(tail, p, p+1):
			continue
		}
		act.Store(value(n, p), h)
		act.Store(mark(n, p), 2*p+1)
		return trial.Told(p)
	}
}

func fetchTable(n int, act trial.Act) api.Answer {
	for {
		p := act.Load(head)
		w := act.Load(mark(n, p))
		switch {
		case behind(w, 2*p+1):
			return api.Answer{}
		case ahead(w, 2*p+1) || !act.CAS(head, p, p+1):
			continue
		}
		v := act.Load(value(n, p))
		act.Store(mark(n, p), 2*(p+uint64(n)))
		return trial.Told(v)
	}
}

// turns: numbers at which doubling, counting on or a sign passes an end.
var turns = [...]uint64{0, 1, 2, 7, 1 << 32, 1<<62 - 1, 1 << 62, 1<<63 - 2, 1<<63 - 1, 1 << 63, 1<<63 + 1, math.MaxUint64 - 1, math.MaxUint64}

// gaps: how far a mark may be ahead of what a turn asks for.
var gaps = [...]uint64{0, 1, 2, 3, 1 << 62, 1<<63 - 1, 1 << 63, 1<<63 + 1, math.MaxUint64 - 2, math.MaxUint64 - 1, math.MaxUint64}

// anyWords: a tail and a head that are near one another or not, and marks that are near them or far away.
func anyWords(from *trial.Source, n int) []uint64 {
	out := make([]uint64, 2+2*n)
	p := turns[from.Below(len(turns))]
	out[tail], out[head] = p+uint64(from.Below(n+2)), p
	if from.Below(4) == 0 {
		out[head] = turns[from.Below(len(turns))]
	}
	for i := range n {
		near := p + uint64(from.Below(2*n+1)) - uint64(n)
		out[2+i] = 2*near + uint64(from.Below(2))
		if from.Below(3) == 0 {
			out[2+i] = 2*p + gaps[from.Below(len(gaps))]
		}
		out[2+n+i] = from.Value()
	}
	return out
}

// anyJobs: of both kinds. What a kind doesn't use is any number.
func anyJobs(from *trial.Source, hands, most int) [][]api.Job {
	return from.Jobs(hands, most, func() api.Job {
		return api.Job{Kind: belt.Give + from.Below(2), A: from.End(), B: from.End(), C: from.Below(9), H: from.Value()}
	})
}

func fresh(t *testing.T, n int) []uint64 {
	t.Helper()
	words, e := belt.Fresh(room(n))
	if e != api.OK {
		t.Fatal(n, e)
	}
	return words
}

// begun: the words of an empty belt with so many turns behind it.
func begun(n int, first uint64) []uint64 {
	out := make([]uint64, 2+2*n)
	out[tail], out[head] = first, first
	for i := range uint64(n) {
		out[mark(n, first+i)] = 2 * (first + i)
	}
	return out
}

// A line is what the jobs of runs have made of a belt so far, told by P7.2's words and not by marks.
type line struct {
	tail, head   uint64
	given        map[uint64]uint64 // the values, by their turns
	stands, gone map[uint64]bool   // turns whose give, whose fetch has ended
}

func newLine(n int, first uint64) *line {
	l := &line{tail: first, head: first, given: map[uint64]uint64{}, stands: map[uint64]bool{}, gone: map[uint64]bool{}}
	for i := range uint64(n) {
		l.gone[first-1-i] = true
	}
	return l
}

// follow takes a step of a job. A job notes the turn that it has loaded.
func (l *line) follow(n int, j *trial.Job, s api.Step) string {
	back := uint64(n)
	isGive := j.Kind == belt.Give
	switch {
	case s.At < 2 && s.Act == api.Load:
		j.Note = s.Had
	case s.At < 2 && s.OK && isGive:
		if s.At != tail || s.Had != l.tail || !l.gone[l.tail-back] {
			return "a give that takes a turn which isn't next, or whose place isn't free"
		}
		l.given[l.tail] = j.H
		l.tail++
	case s.At < 2 && s.OK:
		if s.At != head || s.Had != l.head || !l.stands[l.head] {
			return "a fetch that takes a turn which isn't next, or at which nothing stands"
		}
		l.head++
	case s.At >= 2+n || s.At < 2:
	case s.Act == api.Store && isGive:
		l.stands[j.Note] = true
		j.End(trial.Told(j.Note))
	case s.Act == api.Store:
		l.gone[j.Note] = true
		j.End(trial.Told(l.given[j.Note]))
	case isGive && !l.gone[j.Note-back]:
		j.End(api.Answer{})
	case !isGive && !l.stands[j.Note]:
		j.End(api.Answer{})
	}
	return ""
}

// holdLine fails, if the run doesn't go by the line.
func (l *line) holdLine(t *testing.T, n int, x api.Trace, hands [][]api.Job, answers [][]api.Answer) {
	t.Helper()
	trial.HoldFollowed(t, x, hands, answers, func(j *trial.Job, s api.Step) string { return l.follow(n, j, s) })
}

// holdStanding fails, if the words behind a run that has ended are not those of its tail and head: each place is free
// for its turn, or the value stands there. It tells the values, in order.
func holdStanding(t *testing.T, words []uint64) []uint64 {
	t.Helper()
	n := roomOf(words)
	if words[tail]-words[head] > uint64(n) {
		t.Fatal("tail and head", words)
	}
	var out []uint64
	for p := words[head]; p != words[head]+uint64(n); p++ {
		want := 2 * p
		if p-words[head] < words[tail]-words[head] {
			want++
			out = append(out, words[value(n, p)])
		}
		if words[mark(n, p)] != want {
			t.Fatalf("turn %d: %v; want the mark %d", p, words, want)
		}
	}
	return out
}

// holdOn plays a run to its end on a memory that such a line has left, and holds it to the tables and to P7.2.
func (l *line) holdOn(t *testing.T, words []uint64, hands [][]api.Job, schedule []int) api.Trace {
	t.Helper()
	n := roomOf(words)
	x, a := belts.HoldRun(t, room(n), words, hands, schedule, api.MaxSteps)
	if !x.Ended {
		t.Fatal("no end", hands, schedule)
	}
	l.holdLine(t, n, x, hands, a)
	if x.Words[tail] != l.tail || x.Words[head] != l.head {
		t.Fatal("tail and head", x, l.tail, l.head)
	}
	for i, v := range holdStanding(t, x.Words) {
		if v != l.given[l.head+uint64(i)] {
			t.Fatal(hands, schedule, i, v, l.given)
		}
	}
	return x
}

// holdWhole is holdOn from a fresh memory, and holds what was told to tail and head.
func holdWhole(t *testing.T, n int, hands [][]api.Job, schedule []int) api.Trace {
	t.Helper()
	words := fresh(t, n)
	x := newLine(n, 0).holdOn(t, words, hands, schedule)
	_, a, _ := belt.Play(room(n), words, hands, schedule, api.MaxSteps)
	holdCounts(t, x.Words, hands, a)
	return x
}

// holdCounts fails, if the tail and the head of a run from fresh words are not how many gives and fetches were OK, or
// if not each turn below the tail is told by one give.
func holdCounts(t *testing.T, words []uint64, hands [][]api.Job, answers [][]api.Answer) {
	t.Helper()
	told := map[uint64]int{}
	gives, fetches := uint64(0), uint64(0)
	for h, jobs := range hands {
		if len(answers[h]) != len(jobs) {
			t.Fatal(h, len(answers[h]), len(jobs))
		}
		for i, j := range jobs {
			switch a := answers[h][i]; {
			case !a.OK && a.Val != 0:
				t.Fatal(h, i, j, a)
			case a.OK && j.Kind == belt.Give:
				gives++
				told[a.Val]++
			case a.OK:
				fetches++
			}
		}
	}
	if words[tail] != gives || words[head] != fetches {
		t.Fatalf("%v: %d gives and %d fetches were OK", words, gives, fetches)
	}
	for p := range gives {
		if told[p] != 1 {
			t.Fatalf("the turn %d of %d was told %d times", p, gives, told[p])
		}
	}
}
