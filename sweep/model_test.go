package sweep_test

import (
	"slices"
	"testing"

	"midden/api"
	"midden/shape"
	"midden/sweep"
	"midden/trial"
	"midden/turn"
)

var sweeps = trial.Layer{Size: shape.Size, Fresh: shape.Fresh, Task: task, Play: sweep.Play, Table: table}

// task: a job's, made by the call that is handed neither jobs nor errors: of any colour, too.
func task(sh api.Shape, hand int, j api.Job) (turn.Task, api.Errno) {
	return sweep.All(sh, hand, j.C), api.OK
}

// table is the chapter's table as plain code.
func table(sh api.Shape, _ int, j api.Job, act trial.Act) api.Answer {
	return trial.Sweeping(sh, j.C, act)
}

func pass(colour int) api.Job { return api.Job{Kind: sweep.Pass, C: colour} }

const (
	half = 1 << 32
	last = half - 1 // of the generations
)

// Short names for what is written down again and again.
var (
	tagged = trial.Tagged
	with   = trial.With
	puts   = trial.Puts
	told   = trial.Told
	load   = trial.Load
)

// Three objects with two slots each: their heads are the words 10, 15 and 20; behind each stand its link, its next and its slots.
// Two objects without slots: their heads are the words 10 and 13.
var (
	three = api.Shape{Objects: 3, Slots: 2, Hands: 1, Roots: 1}
	bare  = api.Shape{Objects: 2, Hands: 1, Roots: 1}
)

type cell = trial.Cell

// memory: with these objects and this word Free.
func memory(sh api.Shape, free uint64, objects ...cell) []uint64 {
	return trial.Memory(sh, api.Free, free, objects...)
}

// isUsed, colourOf, ageOf: what a head tells.
func isUsed(head uint64) bool  { return head%2 == 1 }
func colourOf(head uint64) int { return int(head / 2 % 2) }
func ageOf(head uint64) uint64 { return head / 256 % 256 }

func headIn(sh api.Shape, words []uint64, number int) uint64 {
	return words[trial.HeadAt(sh, number)]
}

// play plays a run, and holds it to the table and to that nothing else changes.
func play(t *testing.T, sh api.Shape, words []uint64, hands [][]api.Job, schedule []int, most int) (api.Trace, [][]api.Answer) {
	t.Helper()
	x, a := sweeps.HoldRun(t, sh, words, hands, schedule, most)
	holdNothingElse(t, sh, words, x)
	return x, a
}

// run plays a run to its end, and holds it to that nothing else changes, but not to the table.
func run(t *testing.T, sh api.Shape, words []uint64, hands [][]api.Job, schedule []int) (api.Trace, [][]api.Answer) {
	t.Helper()
	x, a, e := sweep.Play(sh, words, hands, schedule, api.MaxSteps)
	if e != api.OK || !x.Ended {
		t.Fatal(sh, hands, schedule, e, x.Ended)
	}
	holdNothingElse(t, sh, words, x)
	return x, a
}

// What a word of a heap is, as far as this layer may change it.
const (
	another = iota // it stays as it is
	aHead
	aLink
	aSlot
	theFree
	theFreed
)

// kinds: what each word is.
func kinds(sh api.Shape) []int {
	out := make([]int, trial.SizeOf(sh))
	out[api.Free], out[api.Freed] = theFree, theFreed
	for number := 1; number <= sh.Objects; number++ {
		out[trial.HeadAt(sh, number)], out[trial.LinkAt(sh, number)] = aHead, aLink
		for slot := range sh.Slots {
			out[trial.SlotAt(sh, number, slot)] = aSlot
		}
	}
	return out
}

// mayBe: may a step change a word of that kind so?
func mayBe(kind int, s api.Step) bool {
	isOut, isOlder := s.Act == api.Store && s.Put%half == 0, s.Act == api.CAS && s.Put == s.Had+256
	switch kind {
	case aHead:
		return isOut || isOlder && isUsed(s.Had) && ageOf(s.Had) < 255
	case aLink:
		return s.Act == api.Store && s.Put < half
	case aSlot:
		return s.Act == api.Store && s.Put == 0
	case theFree:
		return s.Act == api.CAS && trial.Upper(s.Put) == (trial.Upper(s.Had)+1)%half
	case theFreed:
		return s.Act == api.Add && s.Put == s.Had+1
	}
	return false
}

// holdNothingElse: no step changes a word that a sweep has nothing to do with, nor one of the others in another way.
func holdNothingElse(t *testing.T, sh api.Shape, words []uint64, x api.Trace) {
	t.Helper()
	kind, is := kinds(sh), slices.Clone(words)
	for i, s := range x.Steps {
		if s.At < 0 || s.Had != is[s.At] || s.Put != s.Had && !mayBe(kind[s.At], s) {
			t.Fatalf("step %d changes what it may not, or not so: %+v", i, s)
		}
		is[s.At] = s.Put
	}
	if !slices.Equal(is, x.Words) {
		t.Fatalf("%x; by the steps %x", x.Words, is)
	}
}

// anyWords: any at all, but with more objects in use, of all ages, and with Free that shows an object or about one more often.
func anyWords(from *trial.Source, sh api.Shape) []uint64 {
	words := from.Words(sh)
	if from.Below(5) > 0 {
		words[api.Free] = tagged(from.Below(sh.Objects+2), trial.Tags()[from.Below(len(trial.Tags()))])
	}
	for number := 1; number <= sh.Objects; number++ {
		if from.Below(5) > 0 {
			words[trial.HeadAt(sh, number)] = from.Head()
		}
	}
	return words
}

// anyJobs: with these colours. What isn't used is any number.
func anyJobs(from *trial.Source, colours []int, hands, most int) [][]api.Job {
	return from.Jobs(hands, most, func() api.Job {
		return api.Job{Kind: sweep.Pass, A: from.End(), B: from.End(), C: colours[from.Below(len(colours))], H: from.Value()}
	})
}

var both = []int{0, 1}

// everyOrder goes through each order of the hands' steps.
func everyOrder(t *testing.T, sh api.Shape, words []uint64, hands [][]api.Job, hold func(schedule []int)) int {
	t.Helper()
	return sweeps.EveryOrder(t, sh, words, hands, nil, hold)
}
