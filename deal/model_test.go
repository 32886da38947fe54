package deal_test

import (
	"math"
	"slices"
	"testing"

	"midden/api"
	"midden/deal"
	"midden/trial"
)

var deals = trial.Layer{Size: deal.Size, Fresh: deal.Fresh, Task: deal.Task, Play: deal.Play, Free: deal.Free, Table: table}

func room(n int) api.Shape { return api.Shape{Room: n} }

func lay(v uint64) api.Job { return api.Job{Kind: deal.Lay, H: v} }

var draw, steal = api.Job{Kind: deal.Draw}, api.Job{Kind: deal.Steal}

// The words, reckoned by the chapter alone.
const (
	top    = 0
	bottom = 1
)

func place(n int, number uint64) int { return 2 + int(number%uint64(n)) }

// roomOf: how many places the words are for.
func roomOf(words []uint64) int { return len(words) - 2 }

// below, above: as a difference of words, read as a signed number, is held against 0, without any.
func below(d uint64) bool { return d >= 1<<63 }
func above(d uint64) bool { return d != 0 && !below(d) }

// table is the chapter's tables as plain code.
func table(sh api.Shape, _ int, j api.Job, act trial.Act) api.Answer {
	switch j.Kind {
	case deal.Lay:
		return layTable(sh.Room, j.H, act)
	case deal.Draw:
		return drawTable(sh.Room, act)
	}
	return stealTable(sh.Room, act)
}

func layTable(n int, h uint64, act trial.Act) api.Answer {
	b := act.Load(bottom)
	t := act.Load(top)
	if !below(b-t) && b-t >= uint64(n) {
		return api.Answer{}
	}
	act.Store(place(n, b), h)
	act.Store(bottom, b+1)
	return trial.Told(h)
}

func drawTable(n int, act trial.Act) api.Answer {
	b := act.Load(bottom)
	act.Store(bottom, b-1)
	t := act.Load(top)
	var told api.Answer
	if !below(b - 1 - t) {
		x := act.Load(place(n, b-1))
		if above(b - 1 - t) {
			return trial.Told(x)
		}
		if act.CAS(top, t, t+1) {
			told = trial.Told(x)
		}
	}
	act.Store(bottom, b)
	return told
}

func stealTable(n int, act trial.Act) api.Answer {
	for {
		t := act.Load(top)
		b := act.Load(bottom)
		if !above(b - t) {
			return api.Answer{}
		}
		x := act.Load(place(n, t))
		if act.CAS(top, t, t+1) {
			return trial.Told(x)
		}
	}
}

// ends: numbers at which counting on or a sign passes an end.
var ends = [...]uint64{0, 1, 2, 7, 1 << 32, 1<<63 - 2, 1<<63 - 1, 1 << 63, 1<<63 + 1, math.MaxUint64 - 1, math.MaxUint64}

// gaps: how far a bottom may be behind a top, or ahead of it.
var gaps = [...]uint64{1 << 62, 1<<63 - 1, 1 << 63, 1<<63 + 1, math.MaxUint64 - 2, math.MaxUint64 - 1, math.MaxUint64}

func anyEnd(from *trial.Source) uint64 { return ends[from.Below(len(ends))] }

// anyWords: a bottom that is near the top, with one or more values between, or anywhere.
func anyWords(from *trial.Source, n int) []uint64 {
	out := make([]uint64, 2+n)
	t := anyEnd(from)
	out[top], out[bottom] = t, t+uint64(from.Below(n+2))
	switch from.Below(8) {
	case 0:
		out[bottom] = anyEnd(from)
	case 1:
		out[bottom] = t + gaps[from.Below(len(gaps))]
	}
	for i := range n {
		out[2+i] = from.Value()
	}
	return out
}

// anyJob: of the kinds that such a hand may do, more Lays than others. What a kind doesn't use is any number.
func anyJob(from *trial.Source, hand int) api.Job {
	kind := deal.Steal
	if hand == 0 {
		kind = [...]int{deal.Lay, deal.Lay, deal.Lay, deal.Draw, deal.Draw, deal.Steal}[from.Below(6)]
	}
	return api.Job{Kind: kind, A: from.End(), B: from.End(), C: from.Below(9), H: from.Value()}
}

func anyJobs(from *trial.Source, hands, most int) [][]api.Job {
	out := from.Jobs(hands, most, func() api.Job { return anyJob(from, 1) })
	if hands > 0 {
		out[0] = from.Jobs(1, most, func() api.Job { return anyJob(from, 0) })[0]
	}
	return out
}

func fresh(t *testing.T, n int) []uint64 {
	t.Helper()
	words, e := deal.Fresh(room(n))
	if e != api.OK {
		t.Fatal(n, e)
	}
	return words
}

// filled: the words of a deal with these values, the first one with that number.
func filled(n int, first uint64, values ...uint64) []uint64 {
	out := make([]uint64, 2+n)
	out[top], out[bottom] = first, first+uint64(len(values))
	for i, v := range values {
		out[place(n, first+uint64(i))] = v
	}
	return out
}

// A row is what the jobs of runs have made of a deal so far, told by the promises and not by places.
type row struct {
	there    []uint64   // the values, the first one first
	taken    uint64     // how many have gone from the front
	lessened bool       // a Draw under way has bottom one below the end
	drawn    api.Answer // what the Draw under way will tell
}

func (r *row) takeFirst() api.Answer {
	first := r.there[0]
	r.there = r.there[1:]
	r.taken++
	return trial.Told(first)
}

// follow takes a step of a job. A Steal notes how many had gone when it loaded top.
func (r *row) follow(n int, j *trial.Job, s api.Step) string {
	if s.Act == api.CAS && s.OK && len(r.there) == 0 {
		return "nothing is there that could be taken"
	}
	switch j.Kind {
	case deal.Lay:
		r.followLay(n, j)
		return ""
	case deal.Draw:
		return r.followDraw(j, s)
	}
	return r.followSteal(j, s)
}

func (r *row) followLay(n int, j *trial.Job) {
	switch {
	case j.Steps == 2 && len(r.there) == n:
		j.End(api.Answer{})
	case j.Steps == 4:
		r.there = append(slices.Clip(r.there), j.H)
		j.End(trial.Told(j.H))
	}
}

// followDraw: a value that isn't the last one is the Draw's from its load of top on.
func (r *row) followDraw(j *trial.Job, s api.Step) string {
	last := len(r.there) - 1
	switch {
	case j.Steps == 2:
		r.lessened, r.drawn = true, api.Answer{}
	case j.Steps == 3 && last > 0:
		r.lessened, r.drawn = false, trial.Told(r.there[last])
		r.there = r.there[:last]
	case j.Steps == 4 && r.drawn.OK:
		j.End(r.drawn)
	case s.Act == api.CAS && s.OK:
		r.drawn = r.takeFirst()
	case s.Act == api.CAS && last >= 0:
		return "a Draw's CAS that isn't done, and nobody has the last value"
	case s.Act == api.Store:
		r.lessened = false
		j.End(r.drawn)
	}
	return ""
}

func (r *row) followSteal(j *trial.Job, s api.Step) string {
	passed := r.taken - j.Note
	seen := len(r.there) + int(passed)
	if r.lessened {
		seen--
	}
	switch {
	case s.At == top && s.Act == api.Load:
		j.Note = r.taken
	case s.At == bottom && seen <= 0:
		j.End(api.Answer{})
	case s.Act == api.CAS && s.OK && passed != 0:
		return "a Steal whose value isn't the first one"
	case s.Act == api.CAS && s.OK:
		j.End(r.takeFirst())
	case s.Act == api.CAS && passed == 0:
		return "a Steal's CAS that isn't done for nothing"
	}
	return ""
}

// holdRow fails, if the run doesn't go by the row.
func (r *row) holdRow(t *testing.T, n int, x api.Trace, hands [][]api.Job, answers [][]api.Answer) {
	t.Helper()
	trial.HoldFollowed(t, x, hands, answers, func(j *trial.Job, s api.Step) string { return r.follow(n, j, s) })
}

// standing: the values at the places from top to bottom - 1.
func standing(t *testing.T, words []uint64) []uint64 {
	t.Helper()
	n := roomOf(words)
	if words[bottom]-words[top] > uint64(n) {
		t.Fatal("top and bottom", words)
	}
	var out []uint64
	for number := words[top]; number != words[bottom]; number++ {
		out = append(out, words[place(n, number)])
	}
	return out
}

// holdOn plays a run to its end on a memory that such a row has left, and holds it to the tables and to the row.
func (r *row) holdOn(t *testing.T, words []uint64, hands [][]api.Job, schedule []int) (api.Trace, [][]api.Answer) {
	t.Helper()
	n, gone := roomOf(words), r.taken
	x, a := deals.HoldRun(t, room(n), words, hands, schedule, api.MaxSteps)
	if !x.Ended {
		t.Fatal("no end", hands, schedule)
	}
	r.holdRow(t, n, x, hands, a)
	if x.Words[top]-words[top] != r.taken-gone || !slices.Equal(standing(t, x.Words), r.there) {
		t.Fatalf("%v %v: %v; want %v, and %d gone", hands, schedule, x.Words, r.there, r.taken)
	}
	return x, a
}

// holdWhole is holdOn from a fresh memory, and holds what was told to P8.2's words.
func holdWhole(t *testing.T, n int, hands [][]api.Job, schedule []int) (api.Trace, [][]api.Answer) {
	t.Helper()
	x, a := (&row{}).holdOn(t, fresh(t, n), hands, schedule)
	holdEach(t, hands, a, standing(t, x.Words))
	return x, a
}

// outgoing: for each value, how often it was laid, less how often it was drawn or stolen.
func outgoing(hands [][]api.Job, answers [][]api.Answer) map[uint64]int {
	left := map[uint64]int{}
	for h := range answers {
		for i, told := range answers[h] {
			switch {
			case !told.OK:
			case hands[h][i].Kind == deal.Lay:
				left[told.Val]++
			default:
				left[told.Val]--
			}
		}
	}
	return left
}

// holdEach fails, if what all jobs told and what stands there in the end isn't what was laid, each value as often.
func holdEach(t *testing.T, hands [][]api.Job, answers [][]api.Answer, stands []uint64) {
	t.Helper()
	for h, jobs := range hands {
		if len(answers[h]) != len(jobs) {
			t.Fatal(h, len(answers[h]), len(jobs))
		}
		for i, told := range answers[h] {
			if !told.OK && told.Val != 0 || told.OK && jobs[i].Kind == deal.Lay && told.Val != jobs[i].H {
				t.Fatal(h, i, jobs[i], told)
			}
		}
	}
	left := outgoing(hands, answers)
	for _, v := range stands {
		left[v]--
	}
	for v, n := range left {
		if n != 0 {
			t.Fatalf("%v %v: %v stand there; %d was laid %d times more than it is told", hands, answers, stands, v, n)
		}
	}
}
