package weak_test

import (
	"fmt"
	"slices"
	"testing"

	"midden/api"
	"midden/shape"
	"midden/trial"
	"midden/turn"
	"midden/weak"
)

var weaks = trial.Layer{Size: shape.Size, Fresh: shape.Fresh, Task: task, Play: weak.Play, Table: table}

// task: a job's, made by the calls that are handed neither jobs nor errors: of any weak word, phase and colour, too.
func task(sh api.Shape, hand int, j api.Job) (turn.Task, api.Errno) {
	if j.Kind == weak.Make {
		return weak.Set(sh, hand, j.B, j.H), api.OK
	}
	return weak.Get(sh, hand, j.B, j.C, j.A), api.OK
}

// table is the chapter's tables as plain code.
func table(sh api.Shape, _ int, j api.Job, act trial.Act) api.Answer {
	if j.Kind == weak.Make {
		return trial.Setting(sh, j.B, j.H, act)
	}
	return trial.Getting(sh, j.B, j.C, j.A, act)
}

// set is Make, see is See.
func set(number int, h uint64) api.Job { return api.Job{Kind: weak.Make, B: number, H: h} }

func see(number, phase, colour int) api.Job {
	return api.Job{Kind: weak.See, B: number, C: phase, A: colour}
}

const half = 1 << 32

// Short names for what is written down again and again.
var (
	tagged    = trial.Tagged
	with      = trial.With
	puts      = trial.Puts
	told      = trial.Told
	objectsIn = trial.ObjectsIn
	again     = api.Answer{Val: 1}
)

// Three objects with a slot each, two hands with a root each, three weak words: the acks are the words 8 and 9, the roots 10 and 11,
// the weak words 12, 13 and 14; the objects' heads are the words 15, 19 and 23, and behind each stand its link, its next and its slot.
var three = api.Shape{Objects: 3, Slots: 1, Hands: 2, Roots: 1, Weaks: 3}

type cell = trial.Cell

// memory: of the shape three, with these objects and this word Grey. The weak words show no object.
func memory(grey uint64, objects ...cell) []uint64 {
	return trial.Memory(three, api.Grey, grey, objects...)
}

// play plays a run, and holds it to the tables and to that no other word changes.
func play(t *testing.T, sh api.Shape, words []uint64, hands [][]api.Job, schedule []int, most int) (api.Trace, [][]api.Answer) {
	t.Helper()
	x, a := weaks.HoldRun(t, sh, words, hands, schedule, most)
	holdNothingElse(t, sh, words, x)
	return x, a
}

// What a word of a heap is, as far as this layer may change it.
const (
	another = iota // an ack, a root, a slot and all others: it stays as it is
	aWeak
	aHead
	aLink
	theGrey
)

// kinds: what each word is.
func kinds(sh api.Shape) []int {
	out := make([]int, trial.SizeOf(sh))
	out[api.Grey] = theGrey
	for number := range sh.Weaks {
		out[trial.WeakAt(sh, number)] = aWeak
	}
	for number := 1; number <= sh.Objects; number++ {
		out[trial.HeadAt(sh, number)], out[trial.LinkAt(sh, number)] = aHead, aLink
	}
	return out
}

// holdNothingElse: no step changes a slot, a root or an ack (P19.2), nor anything else but weak words, and what shade's may.
func holdNothingElse(t *testing.T, sh api.Shape, words []uint64, x api.Trace) {
	t.Helper()
	kind, is := kinds(sh), slices.Clone(words)
	for i, s := range x.Steps {
		if s.At < 0 {
			continue
		}
		isRight := s.Put == s.Had
		switch kind[s.At] {
		case aWeak:
			isRight = isRight || s.Act == api.Store
		case aHead:
			isRight = isRight || s.Act == api.CAS && s.Put == s.Had^2
		case aLink:
			isRight = isRight || s.Act == api.Store && s.Put < half
		case theGrey:
			isRight = isRight || s.Act == api.CAS && trial.Upper(s.Put) == (trial.Upper(s.Had)+1)%half
		}
		if !isRight || s.Had != is[s.At] {
			t.Fatalf("step %d changes what it may not, or not so: %+v", i, s)
		}
		is[s.At] = s.Put
	}
	for at, w := range x.Words {
		if kind[at] == another && w != words[at] || w != is[at] {
			t.Fatalf("word %d has changed from %x to %x; by the steps %x", at, words[at], w, is[at])
		}
	}
}

// run plays a run to its end, and holds it to nothing else.
func run(t *testing.T, sh api.Shape, words []uint64, hands [][]api.Job, schedule []int) (api.Trace, [][]api.Answer) {
	t.Helper()
	x, a, e := weak.Play(sh, words, hands, schedule, api.MaxSteps)
	if e != api.OK || !x.Ended {
		t.Fatal(sh, hands, schedule, e, x.Ended)
	}
	return x, a
}

// counts: how often each kind of thing comes.
type counts struct {
	turned  int // objects that a See has shaded
	closed  int // handles told in Close
	white   int // See jobs that must look again, for the object is white
	changed int // and those of which the weak word is another one by then
}

func (c *counts) add(o counts) {
	c.turned += o.turned
	c.closed += o.closed
	c.white += o.white
	c.changed += o.changed
}

func (c *counts) least() int { return min(c.turned, c.closed, c.white, c.changed) }

// A heap is a memory by the steps of a run so far, whose See jobs have one colour.
type heap struct {
	shape  api.Shape
	words  []uint64
	colour int
	safe   []uint64 // what See jobs have told in Arm and Mark
	counts
}

// isWhite: is there such an object, is the handle good, and is the object white?
func (p *heap) isWhite(h uint64) bool {
	at := trial.HeadAt(p.shape, trial.Number(h))
	return at >= 0 && trial.White(p.words[at], trial.Upper(h), p.colour)
}

// follow takes a step of a job. A See's note is what it found in the weak word at first.
func (p *heap) follow(j *trial.Job, s api.Step) string {
	wasWhite := p.isWhite(j.Note)
	if s.At >= 0 {
		p.words[s.At] = s.Put
	}
	for _, h := range p.safe {
		if p.isWhite(h) {
			return fmt.Sprintf("%x was told, and is white", h)
		}
	}
	isMarking := j.C == api.Arm || j.C == api.Mark
	switch isFirst := j.Steps == 1; {
	case j.Kind == weak.Make:
		j.End(told(j.H))
	case isFirst && (s.Had == 0 || !isMarking && j.C != api.Close):
		j.End(told(s.Had))
	case isFirst:
		j.Note = s.Had
	case isMarking:
		return p.followMark(j, s)
	default:
		p.followClose(j, wasWhite)
	}
	return ""
}

// followMark: behind it the object isn't white, and stays so.
func (p *heap) followMark(j *trial.Job, s api.Step) string {
	isLaid := s.At == api.Grey && s.Act == api.CAS && s.OK
	isNone := s.At != api.Grey && s.Act == api.Load && !trial.White(s.Had, trial.Upper(j.Note), p.colour)
	if !isLaid && !isNone {
		return ""
	}
	if p.isWhite(j.Note) {
		return fmt.Sprintf("%x is told, and is white", j.Note)
	}
	if isLaid {
		p.turned++
	}
	p.safe = append(p.safe, j.Note)
	j.End(told(j.Note))
	return ""
}

// followClose: what is told stands in the weak word at the last step, and wasn't white at the one ahead of it.
func (p *heap) followClose(j *trial.Job, wasWhite bool) {
	switch isLast := j.Steps == 3; {
	case !isLast && wasWhite:
		p.white++
		j.End(again)
	case isLast && p.words[trial.WeakAt(p.shape, j.B)] != j.Note:
		p.changed++
		j.End(again)
	case isLast:
		p.closed++
		j.End(told(j.Note))
	}
}

// holdLaws: P19.2, behind which step soever the run stops.
func holdLaws(t *testing.T, sh api.Shape, words []uint64, colour int, hands [][]api.Job, x api.Trace, a [][]api.Answer) counts {
	t.Helper()
	for _, j := range slices.Concat(hands...) {
		if j.Kind == weak.See && j.A != colour {
			t.Fatal("no such job:", j)
		}
	}
	p := &heap{shape: sh, words: slices.Clone(words), colour: colour}
	trial.HoldFollowed(t, x, hands, a, p.follow)
	if !slices.Equal(p.words, x.Words) {
		t.Fatalf("%x; by the steps %x", x.Words, p.words)
	}
	holdNothingElse(t, sh, words, x)
	return p.counts
}

// shown: where the weak words stand.
func shown(sh api.Shape) []int {
	var out []int
	for number := range sh.Weaks {
		out = append(out, trial.WeakAt(sh, number))
	}
	return out
}

// anyWords: any at all, but with more that is in use, and with more good handles in weak words.
func anyWords(from *trial.Source, sh api.Shape) []uint64 { return from.UsedWords(sh, shown(sh)) }

// anyShape: a small one, with so few weak words that hands meet at one of them; but there is one.
func anyShape(from *trial.Source) api.Shape {
	sh := from.SmallShape()
	sh.Weaks = max(sh.Weaks, 1)
	if from.Below(2) == 0 {
		sh.Weaks = 1 + from.Below(2)
	}
	return sh
}

// anyJobs: of both kinds, with these colours, in all phases. What a kind doesn't use is any number.
func anyJobs(from *trial.Source, sh api.Shape, words []uint64, colours []int, hands, most int) [][]api.Job {
	objects := objectsIn(sh, words)
	return from.Jobs(hands, most, func() api.Job {
		number := from.Below(sh.Weaks)
		if from.Below(4) == 0 {
			return api.Job{Kind: weak.Make, A: from.End(), B: number, C: from.End(), H: from.Handle(objects)}
		}
		phase := []int{api.Idle, api.Arm, api.Mark, api.Mark, api.Close, api.Close, api.Close, api.Sweep}[from.Below(8)]
		return api.Job{Kind: weak.See, A: colours[from.Below(len(colours))], B: number, C: phase, H: from.Value()}
	})
}

var both = []int{0, 1}

// everyOrder goes through each order of the hands' steps.
func everyOrder(t *testing.T, sh api.Shape, words []uint64, hands [][]api.Job, hold func(schedule []int)) int {
	t.Helper()
	return weaks.EveryOrder(t, sh, words, hands, nil, hold)
}
