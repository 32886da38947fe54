package store_test

import (
	"fmt"
	"slices"
	"testing"

	"midden/api"
	"midden/hue"
	"midden/store"
	"midden/trial"
)

// A heap is a memory by the steps of a run so far, whose jobs with the barrier have one colour.
type heap struct {
	shape  api.Shape
	words  []uint64
	colour int
	turned int // objects that were white when their job began, and aren't at its store
}

// isWhite: is there such an object, and is it white?
func (p *heap) isWhite(words []uint64, h uint64) bool {
	at := trial.HeadAt(p.shape, trial.Number(h))
	return at >= 0 && trial.White(words[at], trial.Upper(h), p.colour)
}

// follow takes a step of a job. Of one with the barrier the first step is the load of its word, and what it found there is its note.
func (p *heap) follow(began []uint64) func(j *trial.Job, s api.Step) string {
	return func(j *trial.Job, s api.Step) string {
		isStore := s.Act == api.Store && s.At == placeOf(p.shape, j.Hand, j.Job)
		if isStore && j.C != bare {
			for _, h := range []uint64{j.Note, j.H} {
				if p.isWhite(p.words, h) {
					return fmt.Sprintf("%x is stored over %x, and %x is white", j.H, j.Note, h)
				}
				if p.isWhite(began, h) {
					p.turned++
				}
			}
		}
		if j.Steps == 1 {
			j.Note = s.Had
		}
		if isStore {
			j.End(told)
		}
		if s.At >= 0 {
			p.words[s.At] = s.Put
		}
		return ""
	}
}

// holdShadedFirst: P18.2, behind which step soever the run stops. It tells how often something was white when the run began.
func holdShadedFirst(t *testing.T, sh api.Shape, words []uint64, colour int, hands [][]api.Job, x api.Trace, a [][]api.Answer) int {
	t.Helper()
	p := &heap{shape: sh, words: slices.Clone(words), colour: colour}
	trial.HoldFollowed(t, x, hands, a, p.follow(words))
	if !slices.Equal(p.words, x.Words) {
		t.Fatalf("%x; by the steps %x", x.Words, p.words)
	}
	return p.turned
}

// isLawful: what P18.3 asks for: Grey is a whole list of objects in use that aren't white, and the weak law holds.
func isLawful(t *testing.T, sh api.Shape, words []uint64) bool {
	t.Helper()
	list, isWhole := trial.ListIn(sh, words, api.Grey)
	for _, number := range list {
		isWhole = isWhole && words[trial.HeadAt(sh, number)]&3 == 1+2*uint64(colourOf(words))
	}
	return isWhole && isWeak(t, sh, words)
}

// colourOf: the phase word's.
func colourOf(words []uint64) int { return int(words[api.Phase] / 8 % 2) }

// isWeak: does the weak law hold, with nothing busy?
func isWeak(t *testing.T, sh api.Shape, words []uint64) bool {
	t.Helper()
	_, e := hue.Weak(trial.LookAt(t, sh, words), nil)
	return e == api.OK
}

// holdLaw: P18.3, and that the list is one still.
func holdLaw(t *testing.T, sh api.Shape, words []uint64, hands [][]api.Job, schedule []int) (api.Trace, [][]api.Answer) {
	t.Helper()
	if !isLawful(t, sh, words) {
		t.Fatalf("no such memory: %+v %x", sh, words)
	}
	for _, j := range slices.Concat(hands...) {
		if j.C != 1+colourOf(words) {
			t.Fatal("no such job:", j)
		}
	}
	x, a := run(t, sh, words, hands, schedule)
	if !isLawful(t, sh, x.Words) {
		t.Fatalf("%+v %x %v %v: the law is broken by %x", sh, words, hands, schedule, x.Words)
	}
	return x, a
}

// without: the same jobs without the barrier.
func without(hands [][]api.Job) [][]api.Job {
	out := slices.Clone(hands)
	for h, jobs := range out {
		out[h] = slices.Clone(jobs)
		for k := range out[h] {
			out[h][k].C = bare
		}
	}
	return out
}

// lawfulWords: a heap of which most objects are in use and show one another. Some that aren't white are on the grey list; and as
// long as the law is broken of an object, that one is shaded, or one that shows it is put on the list: so there are whites in the
// shelter of one way alone.
func lawfulWords(t *testing.T, from *trial.Source, sh api.Shape) []uint64 {
	t.Helper()
	words := from.Words(sh)
	for number := 1; number <= sh.Objects; number++ {
		words[trial.HeadAt(sh, number)] = tagged(from.Below(16), uint64(from.Below(3)))
		if from.Below(6) > 0 {
			words[trial.HeadAt(sh, number)] |= 1
		}
	}
	objects := objectsIn(sh, words)
	for _, at := range shown(sh) {
		words[at] = from.Handle(objects)
		if number := 1 + from.Below(sh.Objects); from.Below(3) > 0 {
			words[at] = tagged(number, objects[number-1].Gen)
		}
	}
	var grey []int
	for number := 1; number <= sh.Objects; number++ {
		if words[trial.HeadAt(sh, number)]&3 == 1+2*uint64(colourOf(words)) && from.Below(3) == 0 {
			grey = slices.Insert(grey, from.Below(len(grey)+1), number)
		}
	}
	for {
		words = trial.Lay(sh, words, api.Grey, grey)
		v := trial.LookAt(t, sh, words)
		number, e := hue.Weak(v, nil)
		if e == api.OK {
			return words
		}
		_, _, black := hue.Sorts(v, nil)
		show := slices.DeleteFunc(black, func(b int) bool { return !trial.Shows(v)[b-1][number-1] })
		if at := from.Below(len(show) + 1); at < len(show) {
			grey = append(grey, show[at])
		} else {
			words[trial.HeadAt(sh, number)] ^= 2
			grey = append(grey, number)
		}
	}
}

// Every order of the steps of some hands, held to P18.2 all the way, and to P18.3 wherever a run ends. Their memories are those that
// the barrier is for: without it, or with half of it, something live would be taken for dead.
func TestP18_2_And_18_3_EveryOrder(t *testing.T) {
	lawful := func(grey uint64, objects ...cell) []uint64 {
		return with(memory(grey, objects...), api.Phase, 8+api.Mark)
	}
	// 1 is black, 2 is grey and shows 3, which is white.
	last := puts(lawful(tagged(2, 1), cell{3, 9}, cell{3, 0}, cell{1, 9}), 17, 0, 18, 0, 22, 3, 23, 0, 27, 0, 28, 0)
	// 1 is black and shows 3, which is in the shelter of 2 alone.
	shelter := with(last, 17, 3)
	// 1 is grey and shows 2, which shows 3; both are white.
	way := puts(lawful(tagged(1, half-1), cell{3, 0}, cell{1, 9}, cell{1, 9}), 17, 2, 18, 3, 22, 3, 23, 0, 27, 0, 28, 0)
	for _, c := range []struct {
		name  string
		words []uint64
		hands [][]api.Job
		least int // spots
	}{
		{"into the black one, out of the grey one", last, [][]api.Job{{intoSlot(1, 0, 3, barOne)}, {intoSlot(2, 0, 0, barOne)}}, 20},
		{"the shelter is taken away", shelter, [][]api.Job{{intoSlot(2, 0, 0, barOne)}, {intoSlot(1, 1, 3, barOne)}}, 20},
		{"one hand does both", last, [][]api.Job{{intoSlot(1, 0, 3, barOne), intoSlot(2, 0, 0, barOne)}, {intoSlot(2, 0, 2, barOne)}}, 50},
		{"both at one slot", way, [][]api.Job{{intoSlot(1, 0, 3, barOne)}, {intoSlot(1, 0, 0, barOne)}}, 50},
		{"two whites", way, [][]api.Job{{intoSlot(1, 0, 0, barOne)}, {intoSlot(2, 0, 2, barOne)}}, 100},
		{"the way is cut in two", way, [][]api.Job{{intoSlot(1, 0, 1, barOne), intoSlot(1, 1, 0, barOne)}, {intoSlot(2, 0, 0, barOne)}}, 100},
		{"by way of a root", way, [][]api.Job{{intoRoot(0, 2, barOne)}, {intoRoot(0, 3, barOne), intoRoot(0, 0, barOne)}}, 100},
		{"three hands", last, [][]api.Job{{intoSlot(1, 0, 3, barOne)}, {intoSlot(2, 0, 0, barOne)}, {intoSlot(2, 0, 1, barOne)}}, 100},
		{"handles that aren't good", way, [][]api.Job{{intoSlot(1, 0, tagged(3, 1), barOne)}, {intoSlot(1, 0, 9, barOne)}, {intoSlot(1, 0, 5*half, barOne)}}, 100},
	} {
		if !isLawful(t, three, c.words) {
			t.Fatal(c.name)
		}
		ends, turned := 0, 0
		spots := everyOrder(t, three, c.words, c.hands, func(schedule []int) {
			x, a, e := store.Play(three, c.words, c.hands, schedule, len(schedule))
			if e != api.OK {
				t.Fatal(c.name, e)
			}
			turned += holdShadedFirst(t, three, c.words, 1, c.hands, x, a)
			if x.Ended {
				holdLaw(t, three, c.words, c.hands, schedule)
				ends++
			}
		})
		if spots < c.least || ends == 0 || turned == 0 {
			t.Error(c.name, spots, ends, turned)
		}
	}
	// Without the barrier it is broken.
	for _, words := range [][]uint64{last, shelter} {
		if x, _ := run(t, three, words, [][]api.Job{{intoSlot(1, 0, 3, bare), intoSlot(2, 0, 0, bare)}}, nil); isWeak(t, three, x.Words) {
			t.Error("nothing is broken", x)
		}
	}
}

// Any words, one colour; jobs without the barrier are among them. Runs that are left in the middle, too.
func TestP18_2_AnySchedule(t *testing.T) {
	from := trial.Source(31)
	turned := 0
	for range 8000 {
		sh, colour := from.SmallShape(), from.Below(2)
		words := anyWords(&from, sh)
		hands := anyJobs(&from, sh, words, []int{bare, 1 + colour, 1 + colour}, 1+from.Below(api.MaxHands), 8)
		x, a, e := store.Play(sh, words, hands, from.Schedule(from.Below(200)), []int{api.MaxSteps, from.Below(200)}[from.Below(2)])
		if e != api.OK {
			t.Fatal(e)
		}
		turned += holdShadedFirst(t, sh, words, colour, hands, x, a)
	}
	if turned < 5000 {
		t.Error("too few were white at first:", turned)
	}
}

// All hands store the same white handle at one time: ahead of each store it is shaded, whoever has done it.
func TestP18_2_OneObject(t *testing.T) {
	from := trial.Source(32)
	for range 1000 {
		colour := from.Below(2)
		head := uint64(3 - 2*colour)
		words := puts(memory(0, cell{head, 9}, cell{head, 9}, cell{head, 9}), 17, 2, 18, 2, 22, 2)
		hands := make([][]api.Job, 2+from.Below(api.MaxHands-1))
		for h := range hands {
			hands[h] = []api.Job{intoSlot(1+from.Below(2), 0, []uint64{0, 2, 2, 3}[from.Below(4)], 1+colour)}
		}
		x, a := run(t, three, words, hands, from.Schedule(from.Below(60)))
		if holdShadedFirst(t, three, words, colour, hands, x, a) == 0 || x.Words[19] != head^2 {
			t.Fatal(hands, x, a)
		}
		if list, isWhole := trial.ListIn(three, x.Words, api.Grey); !isWhole || slices.Index(list, 2) < 0 || trial.Upper(x.Words[2]) != uint64(len(list)) {
			t.Fatal(list, x.Words)
		}
	}
}

// Any jobs with the barrier, on any heap that is under the law.
func TestP18_3_AnySchedule(t *testing.T) {
	from := trial.Source(33)
	broken, sheltered := 0, 0
	for range 8000 {
		sh := from.Shape()
		if from.Below(5) > 0 {
			sh.Objects, sh.Slots = max(sh.Objects, 4), max(sh.Slots, 1+from.Below(3)) // many that show one another
		}
		words := lawfulWords(t, &from, sh)
		hands := anyJobs(&from, sh, words, []int{1 + colourOf(words)}, 1+from.Below(api.MaxHands), 6)
		schedule := from.Schedule(from.Below(200))
		x, a := holdLaw(t, sh, words, hands, schedule)
		holdShadedFirst(t, sh, words, colourOf(words), hands, x, a)
		if y, _ := run(t, sh, words, without(hands), schedule); !isWeak(t, sh, y.Words) {
			broken++
		}
		if _, e := hue.Strong(trial.LookAt(t, sh, words), nil); e != api.OK {
			sheltered++
		}
		// What a run has left goes on as well.
		holdLaw(t, sh, x.Words, anyJobs(&from, sh, x.Words, []int{1 + colourOf(words)}, 3, 6), from.Schedule(50))
	}
	if broken < 1000 || sheltered < 1000 {
		t.Error("the law is at stake too seldom:", broken, sheltered)
	}
}

// Heaps that runs of the layers below leave: all is black; the colour is turned, and all is white; some are shaded.
func TestP18_3_MemoriesOfRuns(t *testing.T) {
	from := trial.Source(34)
	for range 500 {
		sh := from.Shape()
		words := from.Ran(sh)
		for _, colour := range []int{0, 1} {
			words = with(words, api.Phase, uint64(8*colour+api.Mark))
			words[api.Grey] = tagged(0, trial.Upper(words[api.Grey]))
			if !isLawful(t, sh, words) {
				t.Fatalf("%+v %x", sh, words)
			}
			for range 3 {
				x, _ := holdLaw(t, sh, words, anyJobs(&from, sh, words, []int{1 + colour}, 4, 8), from.Schedule(100))
				words = x.Words
			}
			words = allOf(sh, words, colour)
		}
	}
}

// allOf: each object has this colour.
func allOf(sh api.Shape, words []uint64, colour int) []uint64 {
	out := slices.Clone(words)
	for number := 1; number <= sh.Objects; number++ {
		at := trial.HeadAt(sh, number)
		out[at] = out[at]&^2 | uint64(2*colour)
	}
	return out
}

// One hand, whichever it is: the word of its last job holds that job's handle; and so does each other word, of the last job that
// stored there.
func TestP18_4_OneHand(t *testing.T) {
	from := trial.Source(35)
	again := 0
	for range 5000 {
		sh := from.SmallShape()
		words := anyWords(&from, sh)
		hands := anyJobs(&from, sh, words, allBars, 1+from.Below(api.MaxHands), 12)
		jobs := hands[len(hands)-1]
		clear(hands[:len(hands)-1])
		x, _ := run(t, sh, words, hands, from.Schedule(from.Below(30)))
		stored := map[int]uint64{}
		for _, j := range jobs {
			at := placeOf(sh, len(hands)-1, j)
			if _, isStored := stored[at]; isStored {
				again++
			}
			stored[at] = j.H
		}
		if n := len(jobs); n > 0 && x.Words[placeOf(sh, len(hands)-1, jobs[n-1])] != jobs[n-1].H {
			t.Fatal(sh, jobs, x)
		}
		for at, h := range stored {
			if x.Words[at] != h {
				t.Fatal(sh, jobs, at, h, x)
			}
		}
		for _, at := range shown(sh) {
			if _, isStored := stored[at]; !isStored && x.Words[at] != words[at] {
				t.Fatal(sh, jobs, at, x)
			}
		}
	}
	if again < 1000 {
		t.Error(again)
	}
}

// The same of each job with each barrier, into a word that holds something, or nothing, or the same already.
func TestP18_4_EachJob(t *testing.T) {
	for bar := range 3 {
		for _, old := range append(trial.Values(), tagged(2, 7)) {
			for _, h := range append(trial.Values(), tagged(2, 7), tagged(3, 7)) {
				words := memory(tagged(1, 3), cell{3, 0}, cell{7*half + 1, 4}, cell{7*half + 3, 4})
				for _, j := range []api.Job{intoRoot(1, h, bar), intoSlot(1, 1, h, bar), intoSlot(2, 0, h, bar)} {
					at := placeOf(three, 0, j)
					before := intoRoot(0, tagged(2, 7), 2-bar)
					if x, _ := run(t, three, with(words, at, old), [][]api.Job{{before, j}}, nil); x.Words[at] != h {
						t.Error(bar, old, j, x)
					}
				}
			}
		}
	}
}
