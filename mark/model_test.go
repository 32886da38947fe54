package mark_test

import (
	"slices"
	"testing"

	"midden/api"
	"midden/mark"
	"midden/shape"
	"midden/trial"
	"midden/turn"
)

var marks = trial.Layer{Size: shape.Size, Fresh: shape.Fresh, Task: task, Play: mark.Play, Table: table}

// task: a job's, made by the calls that are handed neither jobs nor errors: of any colour, too.
func task(sh api.Shape, hand int, j api.Job) (turn.Task, api.Errno) {
	if j.Kind == mark.Roots {
		return mark.Scan(sh, hand, j.C), api.OK
	}
	return mark.Rest(sh, hand, j.C), api.OK
}

// table is the chapter's tables as plain code.
func table(sh api.Shape, _ int, j api.Job, act trial.Act) api.Answer {
	if j.Kind == mark.Roots {
		return trial.Scanning(sh, j.C, act)
	}
	return trial.Resting(sh, j.C, act)
}

func roots(colour int) api.Job { return api.Job{Kind: mark.Roots, C: colour} }
func drain(colour int) api.Job { return api.Job{Kind: mark.Drain, C: colour} }

const half = 1 << 32

// Short names for what is written down again and again.
var (
	tagged    = trial.Tagged
	with      = trial.With
	puts      = trial.Puts
	told      = trial.Told
	load      = trial.Load
	objectsIn = trial.ObjectsIn
)

// Three objects with two slots each, two hands with two roots each: the roots are the words 10 to 13; the objects' heads are the
// words 14, 19 and 24, and behind each stand its link, its next and its slots.
var three = api.Shape{Objects: 3, Slots: 2, Hands: 2, Roots: 2}

type cell = trial.Cell

// memory: of the shape three, with these objects and this word Grey. Roots, slots and the queue show no object.
func memory(grey uint64, objects ...cell) []uint64 {
	return trial.Memory(three, api.Grey, grey, objects...)
}

// play plays a run, and holds it to the tables and to P20.5.
func play(t *testing.T, sh api.Shape, words []uint64, hands [][]api.Job, schedule []int, most int) (api.Trace, [][]api.Answer) {
	t.Helper()
	x, a := marks.HoldRun(t, sh, words, hands, schedule, most)
	holdNothingElse(t, sh, words, x)
	return x, a
}

// run plays a run to its end, and holds it to P20.5 alone.
func run(t *testing.T, sh api.Shape, words []uint64, hands [][]api.Job, schedule []int) (api.Trace, [][]api.Answer) {
	t.Helper()
	x, a, e := mark.Play(sh, words, hands, schedule, api.MaxSteps)
	if e != api.OK || !x.Ended {
		t.Fatal(sh, hands, schedule, e, x.Ended)
	}
	holdNothingElse(t, sh, words, x)
	return x, a
}

// What a word of a heap is, as far as this layer may change it.
const (
	another = iota // it stays as it is
	aHead
	aLink
	theGrey
)

// kinds: what each word is.
func kinds(sh api.Shape) []int {
	out := make([]int, trial.SizeOf(sh))
	out[api.Grey] = theGrey
	for number := 1; number <= sh.Objects; number++ {
		out[trial.HeadAt(sh, number)], out[trial.LinkAt(sh, number)] = aHead, aLink
	}
	return out
}

// holdNothingElse: P20.5, of each step, and of the words in the end.
func holdNothingElse(t *testing.T, sh api.Shape, words []uint64, x api.Trace) {
	t.Helper()
	kind, is := kinds(sh), slices.Clone(words)
	for i, s := range x.Steps {
		isRight := s.At >= 0 && s.Had == is[s.At] && (s.Put == s.Had || kind[s.At] != another)
		if isRight && kind[s.At] == aHead {
			isRight = s.Put&^2 == s.Had&^2
		}
		if !isRight {
			t.Fatalf("step %d changes what it may not, or not so: %+v", i, s)
		}
		is[s.At] = s.Put
	}
	for at, w := range x.Words {
		if kind[at] == another && w != words[at] || kind[at] == aHead && w&^2 != words[at]&^2 || w != is[at] {
			t.Fatalf("word %d has changed from %x to %x; by the steps %x", at, words[at], w, is[at])
		}
	}
}

// A job is one of a run, with its steps.
type job struct{ *trial.Noted }

func jobsOf(t *testing.T, sh api.Shape, words []uint64, hands [][]api.Job, schedule []int, most int) ([]job, api.Trace, [][]api.Answer) {
	t.Helper()
	noted, x, a := marks.Noted(t, sh, words, hands, schedule, most)
	out := make([]job, len(noted))
	for i, n := range noted {
		out[i] = job{n}
	}
	return out, x, a
}

// laid, pulled: the objects that a job has put on the grey list, and those that it has pulled off it. Ahead of the CAS of Grey that
// pulls an object, its link is loaded; ahead of the one that lays it, the link is stored.
func (j job) laid() []int   { return j.turned(api.Store) }
func (j job) pulled() []int { return j.turned(api.Load) }

func (j job) turned(ahead int) []int {
	var out []int
	for i, s := range j.Steps {
		if s.At != api.Grey || s.Act != api.CAS || !s.OK || j.Steps[i-1].Act != ahead {
			continue
		}
		if ahead == api.Store {
			out = append(out, trial.Number(s.Put))
		} else {
			out = append(out, trial.Number(s.Had))
		}
	}
	return out
}

// layAt: when a job has put that object on the list.
func (j job) layAt(number int) int {
	for i, s := range j.Steps {
		if s.At == api.Grey && s.Act == api.CAS && s.OK && trial.Number(s.Put) == number && j.Steps[i-1].Act == api.Store {
			return j.When[i]
		}
	}
	return -1
}

// shown: where handles stand, roots and slots.
func shown(sh api.Shape) []int {
	var out []int
	for hand := range sh.Hands {
		for root := range sh.Roots {
			out = append(out, trial.RootAt(sh, hand, root))
		}
	}
	for number := 1; number <= sh.Objects; number++ {
		for slot := range sh.Slots {
			out = append(out, trial.SlotAt(sh, number, slot))
		}
	}
	return out
}

// anyWords: any at all, but with more that is in use, with more good handles in roots and slots, and with a queue more often.
func anyWords(from *trial.Source, sh api.Shape) []uint64 {
	words := from.UsedWords(sh, shown(sh))
	if from.Below(3) > 0 {
		words[api.Queue] = from.Near(sh.Objects)
	}
	return words
}

// anyJobs: of both kinds, with these colours. What no kind uses is any number.
func anyJobs(from *trial.Source, colours []int, hands, most int) [][]api.Job {
	return from.Jobs(hands, most, func() api.Job {
		return api.Job{
			Kind: mark.Roots + from.Below(2), A: from.End(), B: from.End(), C: colours[from.Below(len(colours))], H: from.Value(),
		}
	})
}

var both = []int{0, 1}

// everyOrder goes through each order of the hands' steps.
func everyOrder(t *testing.T, sh api.Shape, words []uint64, hands [][]api.Job, hold func(schedule []int)) int {
	t.Helper()
	return marks.EveryOrder(t, sh, words, hands, nil, hold)
}
