package seq_test

import (
	"fmt"
	"math"
	"slices"
	"testing"

	"midden/api"
	"midden/seq"
	"midden/trial"
	"midden/turn"
)

var seqs = trial.Layer{Size: seq.Size, Fresh: seq.Fresh, Task: seq.Task, Play: seq.Play, Free: seq.Free, Table: table}

func room(n int) api.Shape { return api.Shape{Room: n} }

var read = api.Job{Kind: seq.Read}

func write(v uint64) api.Job { return api.Job{Kind: seq.Write, H: v} }

// writes: a Write of each value.
func writes(values ...uint64) []api.Job {
	var out []api.Job
	for _, v := range values {
		out = append(out, write(v))
	}
	return out
}

func reads(n int) []api.Job { return slices.Repeat([]api.Job{read}, n) }

// torn: the answer of a Read whose words were not alike.
func torn(first uint64) api.Answer { return api.Answer{Val: first} }

// version: its word, by the chapter.
const version = 0

// table is the chapter's tables as plain code.
func table(sh api.Shape, _ int, j api.Job, act trial.Act) api.Answer {
	if j.Kind == seq.Write {
		return writeTable(sh.Room, j.H, act)
	}
	for {
		v := act.Load(version)
		if v%2 == 1 {
			continue
		}
		words := make([]uint64, sh.Room)
		for i := range words {
			words[i] = act.Load(1 + i)
		}
		if act.Load(version) != v {
			continue
		}
		return api.Answer{OK: slices.Min(words) == slices.Max(words), Val: words[0]}
	}
}

func writeTable(n int, value uint64, act trial.Act) api.Answer {
	v := act.Load(version)
	act.Store(version, v+1)
	for i := range n {
		act.Store(1+i, value)
	}
	act.Store(version, v+2)
	return trial.Told(v + 2)
}

// filled: a version, and a record of words that are alike.
func filled(n int, v, word uint64) []uint64 {
	return append([]uint64{v}, slices.Repeat([]uint64{word}, n)...)
}

// versions: those at which counting on passes an end, even ones and odd ones.
var versions = [...]uint64{0, 1, 2, 7, 1<<32 - 1, 1 << 32, 1<<63 - 2, 1<<63 - 1, 1 << 63, math.MaxUint64 - 2, math.MaxUint64 - 1, math.MaxUint64}

// anyWords: the record's words are alike, or all but one, or any.
func anyWords(from *trial.Source, n int) []uint64 {
	out := filled(n, versions[from.Below(len(versions))], from.Value())
	switch from.Below(3) {
	case 0:
		out[1+from.Below(n)] = from.Value()
	case 1:
		for i := range n {
			out[1+i] = from.Value()
		}
	}
	return out
}

// anyJobs: Reads, and Writes of hand 0; what they don't use is any number.
func anyJobs(from *trial.Source, hands, most int) [][]api.Job {
	out := from.Jobs(hands, most, func() api.Job {
		return api.Job{Kind: seq.Read, A: from.End(), B: from.Below(9), C: from.End(), H: from.Value()}
	})
	for i := range slices.Concat(out[:min(1, hands)]...) {
		if from.Below(4) > 0 {
			out[0][i].Kind = seq.Write
		}
	}
	return out
}

// A book is what the Writes of a run from a fresh memory have come to so far, told by the promises and not by words.
type book struct {
	room    int
	written int    // how many Writes have ended
	last    uint64 // the value of the last one
	open    bool   // one stands between its first store and its last
	whole   []bool // of each hand: no Write has stored since its Read began, or began again
}

// follow takes a step of a job. A Read notes how many of its steps count, from where it began last.
func (b *book) follow(j *trial.Job, _ api.Step) string {
	if j.Kind == seq.Write {
		b.followWrite(j)
		return ""
	}
	switch {
	case j.Note == 0 && b.open:
	case j.Note == 0:
		j.Note, b.whole[j.Hand] = 1, true
	case j.Note <= uint64(b.room):
		j.Note++
	case b.whole[j.Hand]:
		j.End(trial.Told(b.last))
	default:
		j.Note = 0
	}
	if j.Ended && b.open {
		return "a Read has ended amid a Write"
	}
	return ""
}

func (b *book) followWrite(j *trial.Job) {
	if j.Steps == 2 {
		b.open = true
		clear(b.whole)
	}
	if j.Steps == b.room+3 {
		b.open = false
		b.written++
		b.last = j.H
		j.End(trial.Told(uint64(2 * b.written)))
	}
}

// valuesOf: what hand 0 writes, one after the other.
func valuesOf(hands [][]api.Job) []uint64 {
	var out []uint64
	for _, j := range slices.Concat(hands...) {
		if j.Kind == seq.Write {
			out = append(out, j.H)
		}
	}
	return out
}

// afterAll: the words when all Writes have ended.
func afterAll(n int, hands [][]api.Job) []uint64 {
	values := valuesOf(hands)
	return filled(n, uint64(2*len(values)), append([]uint64{0}, values...)[len(values)])
}

// holdAlong fails, if what a hand reads doesn't go along the list 0, first value, second value, ..
func holdAlong(t *testing.T, hands [][]api.Job, answers [][]api.Answer) {
	t.Helper()
	for h := range answers {
		left := append([]uint64{0}, valuesOf(hands)...)
		for k, told := range answers[h] {
			if hands[h][k].Kind == seq.Write {
				left = left[1:] // its own one stands there from now on, or a later one
				continue
			}
			at := slices.Index(left, told.Val)
			if !told.OK || at < 0 || h == 0 && at > 0 {
				t.Fatalf("hand %d, job %d: %v; from here on: %v", h, k, told, left)
			}
			left = left[at:]
		}
	}
}

// holdUntorn plays a run from a fresh memory, and holds it to the table and to P10.2.
func holdUntorn(t *testing.T, n int, hands [][]api.Job, schedule []int, most int) (api.Trace, [][]api.Answer) {
	t.Helper()
	x, a := seqs.HoldRun(t, room(n), make([]uint64, 1+n), hands, schedule, most)
	b := &book{room: n, whole: make([]bool, len(hands))}
	trial.HoldFollowed(t, x, hands, a, b.follow)
	holdAlong(t, hands, a)
	return x, a
}

// holdWhole is holdUntorn to the end.
func holdWhole(t *testing.T, n int, hands [][]api.Job, schedule []int) (api.Trace, [][]api.Answer) {
	t.Helper()
	x, a := holdUntorn(t, n, hands, schedule, api.MaxSteps)
	if !x.Ended || !slices.Equal(x.Words, afterAll(n, hands)) {
		t.Fatalf("room %d, %v, %v: %v, %v", n, hands, schedule, x.Ended, x.Words)
	}
	return x, a
}

// everyOrder goes through each order of the hands' steps.
func everyOrder(t *testing.T, n int, words []uint64, hands [][]api.Job, hold func(schedule []int)) int {
	t.Helper()
	return seqs.EveryOrder(t, room(n), words, hands, func(k turn.Task) string { return fmt.Sprintf("%+v", k) }, hold)
}
