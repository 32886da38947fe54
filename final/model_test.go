package final_test

import (
	"slices"
	"testing"

	"midden/api"
	"midden/final"
	"midden/shape"
	"midden/trial"
	"midden/turn"
)

var finals = trial.Layer{Size: shape.Size, Fresh: shape.Fresh, Task: task, Play: final.Play, Table: table}

// task: a job's, made by the calls that are handed neither jobs nor errors: of any colour, too.
func task(sh api.Shape, hand int, j api.Job) (turn.Task, api.Errno) {
	switch j.Kind {
	case final.Clear:
		return final.Wipe(sh, hand, j.C), api.OK
	case final.Call:
		return final.Gather(sh, hand, j.C), api.OK
	}
	return final.Take(sh, hand), api.OK
}

// table is the chapter's tables as plain code.
func table(sh api.Shape, _ int, j api.Job, act trial.Act) api.Answer {
	switch j.Kind {
	case final.Clear:
		return trial.Wiping(sh, j.C, act)
	case final.Call:
		return trial.Gathering(sh, j.C, act)
	}
	return trial.Taking(sh, act)
}

func clearOf(colour int) api.Job { return api.Job{Kind: final.Clear, C: colour} }
func callOf(colour int) api.Job  { return api.Job{Kind: final.Call, C: colour} }

var due = api.Job{Kind: final.Due}

const (
	half = 1 << 32
	last = half - 1 // of the generations
)

// Short names for what is written down again and again.
var (
	tagged = trial.Tagged
	with   = trial.With
	puts   = trial.Puts
	told   = trial.Told
	load   = trial.Load
	none   = api.Answer{}
)

// Three objects with a slot each, and two weak words: these are the words 10 and 11; the heads are the words 12, 16 and 20, and
// behind each stand its link, its next and its slot. Three objects without slots and without weak words: the heads are the words
// 10, 13 and 16.
var (
	three = api.Shape{Objects: 3, Slots: 1, Hands: 1, Roots: 1, Weaks: 2}
	bare  = api.Shape{Objects: 3, Hands: 1, Roots: 1}
)

type cell = trial.Cell

// memory: with these objects; no list shows an object, and neither does a root, a weak word or a slot.
func memory(sh api.Shape, objects ...cell) []uint64 {
	return puts(trial.Memory(sh, api.Grey, 0, objects...), api.Queue, 0)
}

func headIn(sh api.Shape, words []uint64, number int) uint64 { return words[trial.HeadAt(sh, number)] }

func isUsed(head uint64) bool { return head%2 == 1 }

// isWhite: in use, and of another colour.
func isWhite(head uint64, colour int) bool { return trial.White(head, trial.Upper(head), colour) }

// play plays a run, and holds it to the tables and to that nothing else changes.
func play(t *testing.T, sh api.Shape, words []uint64, hands [][]api.Job, schedule []int, most int) (api.Trace, [][]api.Answer) {
	t.Helper()
	x, a := finals.HoldRun(t, sh, words, hands, schedule, most)
	holdNothingElse(t, sh, words, x)
	return x, a
}

// run plays a run to its end, and holds it to that nothing else changes, but not to the tables.
func run(t *testing.T, sh api.Shape, words []uint64, hands [][]api.Job, schedule []int) (api.Trace, [][]api.Answer) {
	t.Helper()
	x, a, e := final.Play(sh, words, hands, schedule, api.MaxSteps)
	if e != api.OK || !x.Ended {
		t.Fatal(sh, hands, schedule, e, x.Ended)
	}
	holdNothingElse(t, sh, words, x)
	return x, a
}

// What a word of a heap is, as far as this layer may change it.
const (
	another = iota // it stays as it is
	aWeak
	aHead
	aNumber // a link, or a next
	aList
	theQueued
)

// kinds: what each word is.
func kinds(sh api.Shape) []int {
	out := make([]int, trial.SizeOf(sh))
	out[api.Grey], out[api.Queue], out[api.Queued] = aList, aList, theQueued
	for weak := range sh.Weaks {
		out[trial.WeakAt(sh, weak)] = aWeak
	}
	for number := 1; number <= sh.Objects; number++ {
		out[trial.HeadAt(sh, number)], out[trial.LinkAt(sh, number)], out[trial.NextAt(sh, number)] = aHead, aNumber, aNumber
	}
	return out
}

// mayBe: may a step change a word of that kind so?
func mayBe(kind int, s api.Step) bool {
	switch kind {
	case aWeak:
		return s.Act == api.CAS && s.Put == 0
	case aHead:
		isTaken := s.Put == s.Had^2+8 && s.Had%2 == 1 && s.Had/4%4 == 1
		return s.Act == api.CAS && isUsed(s.Had) && (s.Put == s.Had^2 || isTaken)
	case aNumber:
		return s.Act == api.Store && s.Put < half
	case aList:
		return s.Act == api.CAS && trial.Upper(s.Put) == (trial.Upper(s.Had)+1)%half
	case theQueued:
		return s.Act == api.Add && s.Put == s.Had+1
	}
	return false
}

// holdNothingElse: no step changes a word that this layer has nothing to do with, nor one of the others in another way.
func holdNothingElse(t *testing.T, sh api.Shape, words []uint64, x api.Trace) {
	t.Helper()
	kind, is := kinds(sh), slices.Clone(words)
	for i, s := range x.Steps {
		if s.At < 0 || s.Had != is[s.At] || s.Put != s.Had && !mayBe(kind[s.At], s) {
			t.Fatalf("step %d changes what it may not, or not so: %+v", i, s)
		}
		is[s.At] = s.Put
	}
	if !slices.Equal(is, x.Words) {
		t.Fatalf("%x; by the steps %x", x.Words, is)
	}
}

// shown: where handles stand that this layer looks at: weak words and slots.
func shown(sh api.Shape) []int {
	var out []int
	for weak := range sh.Weaks {
		out = append(out, trial.WeakAt(sh, weak))
	}
	for number := 1; number <= sh.Objects; number++ {
		for slot := range sh.Slots {
			out = append(out, trial.SlotAt(sh, number, slot))
		}
	}
	return out
}

// anyWords: any at all, but with more that is in use and has a finalizer, with more good handles in weak words and slots, and with
// a queue more often.
func anyWords(from *trial.Source, sh api.Shape) []uint64 {
	words := from.UsedWords(sh, nil)
	for number := 1; number <= sh.Objects; number++ {
		switch at := trial.HeadAt(sh, number); from.Below(4) {
		case 0:
			words[at] = from.Head()
		case 1, 2:
			words[at] = words[at]&^8 | 4
		}
	}
	objects := trial.ObjectsIn(sh, words)
	for _, at := range shown(sh) {
		if from.Below(5) > 0 {
			words[at] = from.Handle(objects)
		}
	}
	if from.Below(3) > 0 {
		words[api.Queue] = tagged(from.Below(sh.Objects+2), trial.Tags()[from.Below(len(trial.Tags()))])
	}
	return words
}

// anyJobs: of all kinds, with these colours. What no kind uses is any number.
func anyJobs(from *trial.Source, colours []int, hands, most int) [][]api.Job {
	return from.Jobs(hands, most, func() api.Job {
		j := api.Job{Kind: final.Clear + from.Below(3), A: from.End(), B: from.End(), C: colours[from.Below(len(colours))], H: from.Value()}
		if j.Kind == final.Due {
			j.C = from.End()
		}
		return j
	})
}

var both = []int{0, 1}

// everyOrder goes through each order of the hands' steps.
func everyOrder(t *testing.T, sh api.Shape, words []uint64, hands [][]api.Job, hold func(schedule []int)) int {
	t.Helper()
	return finals.EveryOrder(t, sh, words, hands, nil, hold)
}
