package mutator_test

import (
	"math"
	"slices"
	"testing"

	"midden/api"
	"midden/cells"
	"midden/mutator"
	"midden/shape"
	"midden/trial"
	"midden/turn"
)

// never is what a hand has told last that has told nothing, and what it tells when it ends.
const never = math.MaxUint64

const (
	half = 1 << 32
	last = half - 1 // of the generations
)

// The layer, in runs of which no hand has told anything.
var mutators = layerFrom(never)

// layerFrom: the layer, in runs ahead of which each hand has told that phase word last.
func layerFrom(told uint64) trial.Layer {
	return trial.Layer{Size: shape.Size, Fresh: shape.Fresh, Play: mutator.Play, Anew: func() (trial.Maker, trial.Table) {
		lasts, plain := slices.Repeat([]uint64{told}, api.MaxHands), slices.Repeat([]uint64{told}, api.MaxHands)
		task := func(sh api.Shape, hand int, j api.Job) (turn.Task, api.Errno) {
			return mutator.Task(sh, hand, j, &lasts[hand])
		}
		table := func(sh api.Shape, hand int, j api.Job, act trial.Act) api.Answer {
			return trial.Mutating(sh, hand, j, &plain[hand], act)
		}
		return task, table
	}}
}

// Kinds of jobs that are none of a hand's list: Bye, and one of another hand, that stores H into the word A.
const (
	bye     = 98
	another = 99
)

// amid is the layer with these two kinds of jobs: so others may turn the phase word while hands are at work.
var amid = trial.Layer{Size: shape.Size, Fresh: shape.Fresh, Play: playAmid, Anew: anewAmid}

func playAmid(sh api.Shape, words []uint64, hands [][]api.Job, schedule []int, most int) (api.Trace, [][]api.Answer, api.Errno) {
	task, _ := anewAmid()
	return turn.Play(words, hands, schedule, most, func(hand int, j api.Job) (turn.Task, api.Errno) { return task(sh, hand, j) })
}

func anewAmid() (trial.Maker, trial.Table) {
	makeTask, makeTable := mutators.Anew()
	task := func(sh api.Shape, hand int, j api.Job) (turn.Task, api.Errno) {
		switch j.Kind {
		case bye:
			return mutator.Bye(sh, hand), api.OK
		case another:
			return &storing{hand, j}, api.OK
		}
		return makeTask(sh, hand, j)
	}
	table := func(sh api.Shape, hand int, j api.Job, act trial.Act) api.Answer {
		switch j.Kind {
		case bye:
			return trial.ByeOf(sh, hand, act)
		case another:
			act.Store(j.A, j.H)
			return told(0)
		}
		return makeTable(sh, hand, j, act)
	}
	return task, table
}

// A storing is a job of the other hand.
type storing struct {
	hand int
	api.Job
}

func (k *storing) Step(m *cells.Mem) (api.Step, int) {
	return m.Do(k.hand, api.Store, k.A, 0, k.H), turn.Ended
}
func (k *storing) Answer() api.Answer { return told(0) }

// The jobs, each by the fields that it uses.
func newOf(a int) api.Job       { return api.Job{Kind: api.New, A: a} }
func finalOf(a int) api.Job     { return api.Job{Kind: api.New, A: a, B: 1} }
func getOf(a, b, c int) api.Job { return api.Job{Kind: api.Get, A: a, B: b, C: c} }
func putOf(a, b, c int) api.Job { return api.Job{Kind: api.Put, A: a, B: b, C: c} }
func copyOf(a, c int) api.Job   { return api.Job{Kind: api.Copy, A: a, C: c} }
func dropOf(a int) api.Job      { return api.Job{Kind: api.Drop, A: a} }
func showOf(a, b int) api.Job   { return api.Job{Kind: api.MakeWeak, A: a, B: b} }
func seeOf(b, c int) api.Job    { return api.Job{Kind: api.GetWeak, B: b, C: c} }
func takeOf(c int) api.Job      { return api.Job{Kind: api.Take, C: c} }

var poll = api.Job{Kind: api.Poll}

// Short names for what is written down again and again.
var (
	tagged = trial.Tagged
	with   = trial.With
	puts   = trial.Puts
	told   = trial.Told
	load   = trial.Load
	store  = trial.Store
	none   = api.Answer{}
)

// The chapter's shape: the ack is the word 8, the roots are 9 and 10, the weak word is 11; the objects' heads are the words 12 and 16.
// Two hands: the acks are the words 8 and 9, the roots 10 and 11, 12 and 13, the weak word is 14; the heads are 15, 19 and 23. Behind
// each head stand the object's link, its next and its slot.
var (
	small = api.Shape{Objects: 2, Slots: 1, Hands: 1, Roots: 2, Weaks: 1}
	duo   = api.Shape{Objects: 3, Slots: 1, Hands: 2, Roots: 2, Weaks: 1}
)

func fresh(sh api.Shape) []uint64 {
	words, _ := shape.Fresh(sh)
	return words
}

// momentOf: a phase word.
func momentOf(phase, colour, round int) uint64 { return uint64(phase + 8*colour + 256*round) }

// play plays a run, and holds it to the tables and to that each hand changes what is its own alone.
func play(t *testing.T, sh api.Shape, words []uint64, hands [][]api.Job, schedule []int, most int) (api.Trace, [][]api.Answer) {
	t.Helper()
	x, a := mutators.HoldRun(t, sh, words, hands, schedule, most)
	holdItsOwn(t, sh, words, x)
	return x, a
}

// run plays a run to its end, and holds it to that each hand changes what is its own alone, but not to the tables.
func run(t *testing.T, sh api.Shape, words []uint64, hands [][]api.Job, schedule []int) (api.Trace, [][]api.Answer) {
	t.Helper()
	x, a, e := mutator.Play(sh, words, hands, schedule, api.MaxSteps)
	if e != api.OK || !x.Ended {
		t.Fatal(sh, hands, schedule, e, x.Ended)
	}
	holdItsOwn(t, sh, words, x)
	return x, a
}

// What a word of a heap is, as far as hands may change it.
const (
	aWord = iota // the phase word, Freed, Queued and Cycles, and the next words: it stays as it is
	anAck
	aRoot
	aWeak
	aHead
	aLink
	aSlot
	aList
	theAllocated
)

// kinds: what each word is, and whose.
func kinds(sh api.Shape) (kind, owner []int) {
	kind, owner = make([]int, trial.SizeOf(sh)), make([]int, trial.SizeOf(sh))
	kind[api.Free], kind[api.Grey], kind[api.Queue], kind[api.Allocated] = aList, aList, aList, theAllocated
	for hand := range sh.Hands {
		kind[trial.AckAt(sh, hand)], owner[trial.AckAt(sh, hand)] = anAck, hand
		for root := range sh.Roots {
			kind[trial.RootAt(sh, hand, root)], owner[trial.RootAt(sh, hand, root)] = aRoot, hand
		}
	}
	for weak := range sh.Weaks {
		kind[trial.WeakAt(sh, weak)] = aWeak
	}
	for number := 1; number <= sh.Objects; number++ {
		kind[trial.HeadAt(sh, number)], kind[trial.LinkAt(sh, number)] = aHead, aLink
		for slot := range sh.Slots {
			kind[trial.SlotAt(sh, number, slot)] = aSlot
		}
	}
	return kind, owner
}

// mayBe: may a step change a word of that kind so?
func mayBe(kind int, s api.Step, phase uint64) bool {
	switch kind {
	case anAck:
		return s.Act == api.Store && s.Put == phase
	case aRoot, aWeak, aSlot:
		return s.Act == api.Store
	case aHead:
		isMade := s.Act == api.Store && trial.Upper(s.Put) == trial.Upper(s.Had) && slices.Contains([]int{1, 3, 5, 7}, trial.Number(s.Put))
		return isMade || s.Act == api.CAS && s.Had%2 == 1 && s.Put == s.Had^2
	case aLink:
		return s.Act == api.Store && s.Put < half
	case aList:
		return s.Act == api.CAS && trial.Upper(s.Put) == (trial.Upper(s.Had)+1)%half
	case theAllocated:
		return s.Act == api.Add && s.Put == s.Had+1
	}
	return false
}

// holdItsOwn: P23.2, and that no step changes anything else than the chapter's tables tell, nor in another way. (No hand's job stores
// into the phase word, so it is the same all along.)
func holdItsOwn(t *testing.T, sh api.Shape, words []uint64, x api.Trace) {
	t.Helper()
	kind, owner := kinds(sh)
	is := slices.Clone(words)
	for i, s := range x.Steps {
		if s.At < 0 && s.Had == 0 && s.Put == 0 {
			continue
		}
		if s.At < 0 || s.Had != is[s.At] || s.Put != s.Had && !mayBe(kind[s.At], s, words[api.Phase]) {
			t.Fatalf("step %d changes what it may not, or not so: %+v", i, s)
		}
		if isOwned := kind[s.At] == anAck || kind[s.At] == aRoot; isOwned && owner[s.At] != s.Hand {
			t.Fatalf("step %d is at a word of hand %d: %+v", i, owner[s.At], s)
		}
		is[s.At] = s.Put
	}
	if !slices.Equal(is, x.Words) {
		t.Fatalf("%x; by the steps %x", x.Words, is)
	}
}

// shown: where handles stand: roots, weak words and slots.
func shown(sh api.Shape) []int {
	var out []int
	kind, _ := kinds(sh)
	for at, k := range kind {
		if k == aRoot || k == aWeak || k == aSlot {
			out = append(out, at)
		}
	}
	return out
}

// anyMoment: a phase word, most often one of the five phases.
func anyMoment(from *trial.Source) uint64 {
	switch from.Below(8) {
	case 0:
		return from.Value()
	case 1:
		return from.Any()
	}
	return momentOf(from.Below(5), from.Below(2), from.Below(3))
}

// anyWords: any at all, but with more good handles, and with more that is free or queued; in half of them most objects are white.
func anyWords(from *trial.Source, sh api.Shape) []uint64 {
	words := from.UsedWords(sh, shown(sh))
	words[api.Phase] = anyMoment(from)
	isWhite := from.Below(2) == 0
	for number := 1; number <= sh.Objects; number++ {
		if at := trial.HeadAt(sh, number); isWhite && from.Below(4) > 0 {
			words[at] = words[at]&^3 + 3 - words[api.Phase]/8%2*2
		}
	}
	for _, list := range []int{api.Free, api.Queue} {
		if from.Below(4) > 0 {
			words[list] = tagged(from.Below(sh.Objects+2), trial.Tags()[from.Below(len(trial.Tags()))])
		}
	}
	for hand := range sh.Hands {
		if from.Below(2) == 0 {
			words[trial.AckAt(sh, hand)] = words[api.Phase]
		}
	}
	return words
}

// anyJob: of a kind that the shape has words for. What its kind doesn't use is any number.
func anyJob(from *trial.Source, sh api.Shape) api.Job {
	var out []int
	for kind := api.New; kind <= api.Poll; kind++ {
		isAtSlot, isAtWeak := kind == api.Get || kind == api.Put, kind == api.MakeWeak || kind == api.GetWeak
		if (!isAtSlot || sh.Slots > 0) && (!isAtWeak || sh.Weaks > 0) {
			out = append(out, kind)
		}
	}
	root := func() int { return from.Below(sh.Roots) }
	j := api.Job{Kind: out[from.Below(len(out))], A: from.End(), B: from.End(), C: from.End(), H: from.Value()}
	switch j.Kind {
	case api.New:
		j.A, j.B = root(), from.Below(2)
	case api.Get:
		j.A, j.B, j.C = root(), from.Below(sh.Slots), root()
	case api.Put:
		j.A, j.B, j.C = root(), from.Below(sh.Slots), root()-from.Below(2)
	case api.Copy:
		j.A, j.C = root(), root()
	case api.Drop:
		j.A = root()
	case api.MakeWeak:
		j.A, j.B = root(), from.Below(sh.Weaks)
	case api.GetWeak:
		j.B, j.C = from.Below(sh.Weaks), root()
	case api.Take:
		j.C = root()
	}
	return j
}

// anyJobs: for each of the shape's hands. In half of the runs all hands have the same few jobs again and again, so that they meet.
func anyJobs(from *trial.Source, sh api.Shape, most int) [][]api.Job {
	few := []api.Job{anyJob(from, sh), anyJob(from, sh)}
	isCrowd := from.Below(2) == 0
	return from.Jobs(sh.Hands, most, func() api.Job {
		if isCrowd {
			return few[from.Below(2)]
		}
		return anyJob(from, sh)
	})
}

// crowd: the same shape with more hands.
func crowd(from *trial.Source, sh api.Shape) api.Shape {
	sh.Hands = 2 + from.Below(api.MaxHands-2)
	return sh
}

// everyOrder goes through each order of the hands' steps.
func everyOrder(t *testing.T, sh api.Shape, words []uint64, hands [][]api.Job, hold func(schedule []int)) int {
	t.Helper()
	return mutators.EveryOrder(t, sh, words, hands, nil, hold)
}
