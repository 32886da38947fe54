package epoch_test

import (
	"fmt"
	"math"
	"slices"
	"testing"

	"midden/api"
	"midden/epoch"
	"midden/trial"
	"midden/turn"
)

var epochs = trial.Layer{Size: epoch.Size, Fresh: epoch.Fresh, Task: epoch.Task, Play: epoch.Play, Free: epoch.Free, Table: table}

func room(n int) api.Shape { return api.Shape{Room: n} }

var enter, leave, reap = api.Job{Kind: epoch.Enter}, api.Job{Kind: epoch.Leave}, api.Job{Kind: epoch.Reap}

func retire(place int) api.Job { return api.Job{Kind: epoch.Retire, A: place} }

func reaps(n int) []api.Job { return slices.Repeat([]api.Job{reap}, n) }

// The words, by the chapter.
const now = 0

func wordOf(hand int) int   { return 1 + hand }
func placeAt(place int) int { return 9 + place }

// memory: the words with such an epoch; the hands' words from hand 0 on, and 0 for the others; the places' words.
func memory(e uint64, hands []uint64, places ...uint64) []uint64 {
	out := make([]uint64, 9+len(places))
	out[now] = e
	copy(out[1:9], hands)
	copy(out[9:], places)
	return out
}

// fresh: the words at the beginning, by the chapter.
func fresh(n int) []uint64 { return make([]uint64, 9+n) }

// table is the chapter's table as plain code.
func table(sh api.Shape, hand int, j api.Job, act trial.Act) api.Answer {
	switch j.Kind {
	case epoch.Enter:
		e := act.Load(now)
		act.Store(wordOf(hand), e+1)
		return trial.Told(e)
	case epoch.Leave:
		act.Store(wordOf(hand), 0)
		return trial.Told(0)
	case epoch.Retire:
		e := act.Load(now)
		return api.Answer{OK: act.CAS(placeAt(j.A), 0, e+1)}
	}
	return reapTable(sh.Room, act)
}

func reapTable(n int, act trial.Act) api.Answer {
	e := act.Load(now)
	behind := false
	for h := 0; h < 8 && !behind; h++ {
		w := act.Load(wordOf(h))
		behind = w != 0 && w != e+1
	}
	if !behind {
		act.CAS(now, e, e+1)
	}
	f := act.Load(now)
	mask := uint64(0)
	for i := range n {
		if w := act.Load(placeAt(i)); old(w, f) && act.CAS(placeAt(i), w, 0) {
			mask |= uint64(1) << i
		}
	}
	return trial.Told(mask)
}

// old: w isn't 0, and w + 1, modulo 2^64, is at most f; told without a sum.
func old(w, f uint64) bool { return w == math.MaxUint64 || w != 0 && w < f }

// ends: epochs at which counting on passes an end.
var ends = [...]uint64{0, 1, 2, 7, 1<<32 - 1, 1<<63 - 1, 1 << 63, math.MaxUint64 - 3, math.MaxUint64 - 2, math.MaxUint64 - 1, math.MaxUint64}

// near: a word at the epoch or some steps from it, or any one.
func near(from *trial.Source, e uint64) uint64 {
	if from.Below(6) == 0 {
		return from.Value()
	}
	return e + uint64(from.Below(6)) - 3
}

// anyWords: hands that are outside, or came in with the epoch, or in some memories any; places that were given up, or
// not, or any.
func anyWords(from *trial.Source, n int) []uint64 {
	out := fresh(n)
	out[now] = ends[from.Below(len(ends))]
	odd := from.Below(2) == 0
	for h := range 8 {
		switch from.Below(4) {
		case 0:
			out[wordOf(h)] = out[now] + 1
		case 1:
			if odd {
				out[wordOf(h)] = near(from, out[now])
			}
		}
	}
	for i := range n {
		if from.Below(3) > 0 {
			out[placeAt(i)] = near(from, out[now])
		}
	}
	return out
}

// anyJob: more Reaps than others, and Retires of few places, so that they meet. What a kind doesn't use is any number.
func anyJob(from *trial.Source, n int) api.Job {
	kind := [...]int{epoch.Enter, epoch.Leave, epoch.Retire, epoch.Retire, epoch.Reap, epoch.Reap}[from.Below(6)]
	j := api.Job{Kind: kind, A: from.End(), B: from.End(), C: from.Below(99), H: from.Value()}
	if kind == epoch.Retire {
		j.A = from.Below(n)
	}
	return j
}

func anyJobs(from *trial.Source, n, hands, most int) [][]api.Job {
	return from.Jobs(hands, most, func() api.Job { return anyJob(from, n) })
}

// leaveAll: the same jobs, and a Leave as each hand's last one.
func leaveAll(hands [][]api.Job) [][]api.Job {
	out := slices.Clone(hands)
	for h := range out {
		out[h] = append(slices.Clip(out[h]), leave)
	}
	return out
}

// A place as a book has it.
type place struct {
	up    bool  // it was given up, and not reaped since
	seers uint8 // a bit for each hand that may see it
}

// A book is what a run from a fresh memory has come to so far, told by the promises and not by words.
type book struct {
	epoch  uint64
	words  [8]uint64 // the hands'
	inside uint8     // a bit for each hand whose Enter has ended, and that has begun no Leave and no Enter since
	giving [8]uint8  // of a Retire under way: who was inside ahead of its first step, and is so since
	places []place
	seen   [8]uint64 // by a Reap under way: the epoch, as it was loaded last
	mask   [8]uint64 // of a Reap under way
	reaped int       // how many places in all
}

func newBook(n int) *book { return &book{places: make([]place, n)} }

// past: what of a run's past counts for what is to come, and stands in no word and no task.
func (b *book) past() string { return fmt.Sprint(b.inside, b.giving, b.places) }

func (b *book) follow(j *trial.Job, s api.Step) string {
	if s.At == now {
		if fault := b.followEpoch(s); fault != "" {
			return fault
		}
	}
	switch j.Kind {
	case epoch.Enter:
		b.followEnter(j)
	case epoch.Leave:
		b.goOut(j.Hand)
		b.words[j.Hand] = 0
		j.End(trial.Told(0))
	case epoch.Retire:
		return b.followRetire(j, s)
	case epoch.Reap:
		return b.followReap(j, s)
	}
	return ""
}

func (b *book) followEpoch(s api.Step) string {
	if s.Had != b.epoch || s.Put != s.Had && s.Put != s.Had+1 {
		return fmt.Sprint("the epoch falls, or grows by more than one: ", b.epoch, s)
	}
	b.epoch = s.Put
	return ""
}

// goOut: from its first step of a Leave or an Enter on, a hand sees nothing any more of what was given up ahead of it.
func (b *book) goOut(h int) {
	b.inside &^= 1 << h
	for i := range b.giving {
		b.giving[i] &^= 1 << h
	}
	for i := range b.places {
		b.places[i].seers &^= 1 << h
	}
}

func (b *book) followEnter(j *trial.Job) {
	if j.Steps == 1 {
		b.goOut(j.Hand)
		j.Note = b.epoch
		return
	}
	b.words[j.Hand] = j.Note + 1
	b.inside |= 1 << j.Hand
	j.End(trial.Told(j.Note))
}

func (b *book) followRetire(j *trial.Job, s api.Step) string {
	if j.Steps == 1 {
		b.giving[j.Hand] = b.inside
		return ""
	}
	p := &b.places[j.A]
	if s.OK == p.up {
		return fmt.Sprint("a place is given up twice, or can't be: ", *p)
	}
	if s.OK {
		*p = place{up: true, seers: b.giving[j.Hand]}
	}
	b.giving[j.Hand] = 0
	j.End(api.Answer{OK: s.OK})
	return ""
}

func (b *book) followReap(j *trial.Job, s api.Step) string {
	h, i := j.Hand, s.At-placeAt(0)
	switch {
	case j.Steps == 1:
		b.mask[h], b.seen[h] = 0, b.epoch
	case s.At == now:
		b.seen[h] = b.epoch
	case s.Act == api.CAS && s.OK:
		p := &b.places[i]
		if !p.up || p.seers != 0 {
			return fmt.Sprint("reaped, but not given up, or a hand can see it: place ", i, *p)
		}
		*p = place{}
		b.reaped++
		b.mask[h] |= 1 << i
	}
	if i == len(b.places)-1 && (s.Act == api.CAS || !old(s.Had, b.seen[h])) {
		j.End(trial.Told(b.mask[h]))
	}
	return ""
}

// holdWords fails, if the words are not what the book says.
func (b *book) holdWords(t *testing.T, words []uint64) {
	t.Helper()
	if words[now] != b.epoch || !slices.Equal(words[1:9], b.words[:]) {
		t.Fatalf("%v; want %+v", words, b)
	}
	for i, p := range b.places {
		if w := words[placeAt(i)]; (w != 0) != p.up || w > b.epoch+1 {
			t.Fatalf("place %d: %v; want %+v", i, words, b)
		}
	}
}

// holdBook plays a run from a fresh memory, and holds it to the table and to the promises.
func holdBook(t *testing.T, n int, hands [][]api.Job, schedule []int, most int) (api.Trace, [][]api.Answer, *book) {
	t.Helper()
	x, a := epochs.HoldRun(t, room(n), fresh(n), hands, schedule, most)
	b := newBook(n)
	trial.HoldFollowed(t, x, hands, a, b.follow)
	b.holdWords(t, x.Words)
	holdOnce(t, n, hands, a)
	return x, a, b
}

// holdWhole is holdBook to the end.
func holdWhole(t *testing.T, n int, hands [][]api.Job, schedule []int) (api.Trace, [][]api.Answer, *book) {
	t.Helper()
	x, a, b := holdBook(t, n, hands, schedule, api.MaxSteps)
	if !x.Ended {
		t.Fatal("no end", n, hands, schedule)
	}
	return x, a, b
}

// leftUp: of each place, how often it was given up, less how often it was told as reaped.
func leftUp(n int, hands [][]api.Job, answers [][]api.Answer) []int {
	left := make([]int, n)
	for h := range answers {
		for k, told := range answers[h] {
			switch j := hands[h][k]; {
			case j.Kind == epoch.Retire && told.OK:
				left[j.A]++
			case j.Kind == epoch.Reap:
				for i := range left {
					left[i] -= int(told.Val >> i & 1)
				}
			}
		}
	}
	return left
}

// holdOnce fails, if what the answers tell can't be: a mask with a place that isn't there, a Val where none is told, or
// a place that was reaped more often than it was given up. (A Retire has told when its place is given up: so that holds
// of runs that are left in the middle, too.)
func holdOnce(t *testing.T, n int, hands [][]api.Job, answers [][]api.Answer) {
	t.Helper()
	for h := range answers {
		for k, told := range answers[h] {
			j := hands[h][k]
			if j.Kind != epoch.Retire && !told.OK || (j.Kind == epoch.Retire || j.Kind == epoch.Leave) && told.Val != 0 ||
				j.Kind == epoch.Reap && n < 64 && told.Val>>n != 0 {
				t.Fatal(n, h, k, j, told)
			}
		}
	}
	for i, left := range leftUp(n, hands, answers) {
		if left < 0 {
			t.Fatal(n, hands, answers, "place", i, left)
		}
	}
}

// everyOrder goes through each order of the hands' steps.
func everyOrder(t *testing.T, n int, words []uint64, hands [][]api.Job, hold func(schedule []int)) int {
	t.Helper()
	return epochs.EveryOrder(t, room(n), words, hands, stateOf, hold)
}

func stateOf(k turn.Task) string { return fmt.Sprintf("%+v", k) }

// everyPast is everyOrder from a fresh memory, with all that P11.2 looks back to.
func everyPast(t *testing.T, n int, hands [][]api.Job) (spots, reaped int) {
	t.Helper()
	spots = epochs.EveryPast(t, room(n), fresh(n), hands, stateOf, func(schedule []int) string {
		_, _, b := holdBook(t, n, hands, schedule, len(schedule))
		reaped = max(reaped, b.reaped)
		return b.past()
	})
	return spots, reaped
}
