package shade_test

import (
	"fmt"
	"slices"
	"testing"

	"midden/api"
	"midden/shade"
	"midden/shape"
	"midden/trial"
	"midden/turn"
)

var shades = trial.Layer{Size: shape.Size, Fresh: shape.Fresh, Task: task, Play: shade.Play, Table: table}

// task: a job's, made by the calls that are handed neither jobs nor errors: of any colour, too.
func task(sh api.Shape, hand int, j api.Job) (turn.Task, api.Errno) {
	if j.Kind == shade.Shade {
		return shade.Mark(sh, hand, j.H, j.C), api.OK
	}
	return shade.Pull(sh, hand), api.OK
}

// table is the chapter's tables as plain code.
func table(sh api.Shape, _ int, j api.Job, act trial.Act) api.Answer {
	if j.Kind == shade.Shade {
		return trial.Marking(sh, j.H, j.C, act)
	}
	return trial.Pulling(sh, act)
}

func mark(h uint64, colour int) api.Job { return api.Job{Kind: shade.Shade, H: h, C: colour} }

var next = api.Job{Kind: shade.Next}

const half = 1 << 32

// Short names for what is written down again and again.
var (
	tagged     = trial.Tagged
	tags       = trial.Tags
	farNumbers = trial.FarNumbers
	with       = trial.With
)

// One object without slots: its head is word 10, its link 11. Three objects with a slot each: their heads are the words 10, 14
// and 18, each with its link behind it.
var (
	one   = api.Shape{Objects: 1, Hands: 1, Roots: 1}
	three = api.Shape{Objects: 3, Slots: 1, Hands: 1, Roots: 1}
)

type cell = trial.Cell

// memory: with these objects and this word Grey.
func memory(sh api.Shape, grey uint64, objects ...cell) []uint64 {
	return trial.Memory(sh, api.Grey, grey, objects...)
}

// listIn: the grey list, if it is one.
func listIn(sh api.Shape, words []uint64) ([]int, bool) { return trial.ListIn(sh, words, api.Grey) }

// isList: is the grey list one of objects in use of this colour? That is what P16.2 asks for.
func isList(sh api.Shape, words []uint64, colour int) bool {
	list, whole := listIn(sh, words)
	for _, number := range list {
		head := words[trial.HeadAt(sh, number)]
		whole = whole && head%2 == 1 && int(head/2%2) == colour
	}
	return whole
}

// play plays a run, and holds it to the tables and to P16.3.
func play(t *testing.T, sh api.Shape, words []uint64, hands [][]api.Job, schedule []int, most int) (api.Trace, [][]api.Answer) {
	t.Helper()
	x, a := shades.HoldRun(t, sh, words, hands, schedule, most)
	holdNothingElse(t, sh, words, x)
	return x, a
}

// holdNothingElse: P16.3.
func holdNothingElse(t *testing.T, sh api.Shape, words []uint64, x api.Trace) {
	t.Helper()
	isHead, isLink := map[int]int{}, map[int]int{}
	for number := 1; number <= sh.Objects; number++ {
		isHead[trial.HeadAt(sh, number)] = number
		isLink[trial.LinkAt(sh, number)] = number
	}
	is := slices.Clone(words)
	for i, s := range x.Steps {
		if s.At < 0 || s.At >= len(is) {
			if s.Had != 0 || s.Put != 0 {
				t.Fatalf("step %d: %+v", i, s)
			}
			continue
		}
		if s.Had != is[s.At] {
			t.Fatalf("step %d: %+v, but %x stood there", i, s, is[s.At])
		}
		is[s.At] = s.Put
		isRight := s.Put == s.Had || isLink[s.At] > 0 || isHead[s.At] > 0 && s.Put^s.Had == 2 ||
			s.At == 2 && s.Put>>32 == (s.Had>>32+1)%half
		if !isRight {
			t.Fatalf("step %d changes what it may not, or not so: %+v", i, s)
		}
	}
	if !slices.Equal(is, x.Words) {
		t.Fatalf("%x; by the steps %x", x.Words, is)
	}
	for at, w := range words {
		if at != 2 && isLink[at] == 0 && x.Words[at]|2 != w|2 || at != 2 && isLink[at]+isHead[at] == 0 && x.Words[at] != w {
			t.Fatalf("word %d has changed from %x to %x", at, w, x.Words[at])
		}
	}
}

// A pile is a grey list by the steps of a run so far, its first object last.
type pile []int

// follow takes a step of a job. A Shade loads its object's head until that isn't white any more.
func (p *pile) follow(j *trial.Job, s api.Step) string {
	isGrey, last := s.At == api.Grey, len(*p)-1
	switch isDone := isGrey && s.Act == api.CAS && s.OK; {
	case isGrey && last < 0 && trial.Number(s.Had) != 0, isGrey && last >= 0 && trial.Number(s.Had) != (*p)[last]:
		return fmt.Sprint("Grey shows another one; there wait ", *p)
	case j.Kind == shade.Shade && isDone:
		*p = append(*p, trial.Number(j.H))
		j.End(trial.Told(uint64(trial.Number(j.H))))
	case j.Kind == shade.Shade && !isGrey && s.Act == api.Load && !trial.White(s.Had, trial.Upper(j.H), j.C):
		j.End(api.Answer{})
	case j.Kind == shade.Next && isDone:
		j.End(trial.Told(uint64((*p)[last])))
		*p = (*p)[:last]
	case j.Kind == shade.Next && isGrey && s.Act == api.Load && last < 0:
		j.End(api.Answer{})
	}
	return ""
}

// holdList plays a run of one colour from words of which the grey list is one, and holds it step by step to a list.
func holdList(t *testing.T, sh api.Shape, words []uint64, colour int, hands [][]api.Job, schedule []int, most int) (api.Trace, [][]api.Answer) {
	t.Helper()
	if !isList(sh, words, colour) {
		t.Fatalf("no list of this colour: %v %x", sh, words)
	}
	x, a := play(t, sh, words, hands, schedule, most)
	list, _ := listIn(sh, words)
	slices.Reverse(list)
	p := pile(list)
	trial.HoldFollowed(t, x, hands, a, p.follow)
	slices.Reverse(p)
	if behind, whole := listIn(sh, x.Words); !whole || !slices.Equal(behind, p) {
		t.Fatalf("%v %x: the list is %v; want %v", sh, x.Words, behind, p)
	}
	return x, a
}

// A tally is what the answers of a run tell of each object.
type tally struct{ asked, won, taken []int }

// tallyOf counts; it fails, if an answer can't be.
func tallyOf(t *testing.T, sh api.Shape, words []uint64, colour int, hands [][]api.Job, a [][]api.Answer) tally {
	t.Helper()
	out := tally{make([]int, sh.Objects+1), make([]int, sh.Objects+1), make([]int, sh.Objects+1)}
	for h, jobs := range hands {
		for k, told := range a[h] {
			j := jobs[k]
			number := trial.Number(j.H)
			at := trial.HeadAt(sh, number)
			isAsked := j.Kind == shade.Shade && at >= 0 && trial.White(words[at], trial.Upper(j.H), colour)
			isWrong := !told.OK && told.Val != 0 || told.OK && (told.Val < 1 || told.Val > uint64(sh.Objects)) ||
				told.OK && j.Kind == shade.Shade && (!isAsked || told.Val != uint64(number))
			switch {
			case isWrong:
				t.Fatalf("%v: %v", j, told)
			case told.OK && j.Kind == shade.Next:
				out.taken[told.Val]++
			case told.OK:
				out.won[number]++
			}
			if isAsked {
				out.asked[number]++
			}
		}
	}
	return out
}

// holdWhole is holdList to the run's end, and holds it to P16.2 by the words and answers alone.
func holdWhole(t *testing.T, sh api.Shape, words []uint64, colour int, hands [][]api.Job, schedule []int) (api.Trace, [][]api.Answer) {
	t.Helper()
	x, a := holdList(t, sh, words, colour, hands, schedule, api.MaxSteps)
	if !x.Ended {
		t.Fatal("no end", sh, hands, schedule)
	}
	holdOneWinner(t, sh, words, colour, hands, x, a)
	return x, a
}

func holdOneWinner(t *testing.T, sh api.Shape, words []uint64, colour int, hands [][]api.Job, x api.Trace, a [][]api.Answer) {
	t.Helper()
	n := tallyOf(t, sh, words, colour, hands, a)
	stood, _ := listIn(sh, words)
	lies, whole := listIn(sh, x.Words)
	if !whole {
		t.Fatalf("no list any more: %v %x", sh, x.Words)
	}
	for number := 1; number <= sh.Objects; number++ {
		had, is := words[trial.HeadAt(sh, number)], x.Words[trial.HeadAt(sh, number)]
		isAsked := n.asked[number] > 0
		waits := isAsked || slices.Contains(stood, number)
		switch {
		case isAsked && (n.won[number] != 1 || is != had^2 || int(is/2%2) != colour):
			t.Fatalf("object %d: %d Shades, %d of them OK; from %x to %x", number, n.asked[number], n.won[number], had, is)
		case !isAsked && is != had:
			t.Fatalf("object %d: no Shade, but from %x to %x", number, had, is)
		case n.taken[number] > 1 || n.taken[number] > 0 && !waits:
			t.Fatalf("object %d: taken %d times", number, n.taken[number])
		case slices.Contains(lies, number) != (waits && n.taken[number] == 0):
			t.Fatalf("object %d: on the list %v is what is not to be, or not what is to be", number, lies)
		}
	}
}

// anyWords: any at all, but with more objects in use, and Grey with an object or about one more often.
func anyWords(from *trial.Source, sh api.Shape) []uint64 {
	words := from.Words(sh)
	if from.Below(5) > 0 {
		words[api.Grey] = tagged(from.Below(sh.Objects+2), tags()[from.Below(len(tags()))])
	}
	for number := 1; number <= sh.Objects; number++ {
		if from.Below(3) > 0 {
			words[trial.HeadAt(sh, number)] |= 1
		}
	}
	return words
}

// greyWords: the like, but the grey list is one of objects in use of this colour. In the upper halves of links stands anything.
func greyWords(from *trial.Source, sh api.Shape, colour int) []uint64 {
	words := anyWords(from, sh)
	var list []int
	for number := 1; number <= sh.Objects; number++ {
		head := words[trial.HeadAt(sh, number)]
		if head%2 == 1 && int(head/2%2) == colour && from.Below(3) > 0 {
			list = slices.Insert(list, from.Below(len(list)+1), number)
		}
	}
	return trial.Lay(sh, words, api.Grey, list)
}

// anyJobs: of both kinds, with these colours. What a kind doesn't use is any number.
func anyJobs(from *trial.Source, sh api.Shape, words []uint64, colours []int, hands, most int) [][]api.Job {
	objects := trial.ObjectsIn(sh, words)
	return from.Jobs(hands, most, func() api.Job {
		j := api.Job{Kind: shade.Next, A: from.End(), B: from.End(), C: from.End(), H: from.Value()}
		if from.Below(3) > 0 {
			j.Kind, j.C, j.H = shade.Shade, colours[from.Below(len(colours))], from.Handle(objects)
		}
		return j
	})
}

var both = []int{0, 1}

// everyOrder goes through each order of the hands' steps.
func everyOrder(t *testing.T, sh api.Shape, words []uint64, hands [][]api.Job, hold func(schedule []int)) int {
	t.Helper()
	return shades.EveryOrder(t, sh, words, hands, nil, hold)
}
