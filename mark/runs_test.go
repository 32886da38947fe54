package mark_test

import (
	"slices"
	"testing"

	"midden/api"
	"midden/mark"
	"midden/trial"
)

// reachedIn: for each object, whether it is reached from the roots and the queue.
func reachedIn(t *testing.T, sh api.Shape, words []uint64) []bool {
	t.Helper()
	v := trial.LookAt(t, sh, words)
	v.Queue, _ = trial.ListIn(sh, words, api.Queue)
	return trial.Reached(v, trial.Starts(v))
}

// hasColour: is that object in use, and of this colour?
func hasColour(sh api.Shape, words []uint64, number, colour int) bool {
	return words[trial.HeadAt(sh, number)]&3 == 1+2*uint64(colour)
}

// isReady: what P20.2 asks for: the grey list is empty, the queue is a list of objects in use, and nothing that is reached has the
// colour.
func isReady(t *testing.T, sh api.Shape, words []uint64, colour int) bool {
	t.Helper()
	queue, isList := trial.ListIn(sh, words, api.Queue)
	for _, number := range queue {
		isList = isList && words[trial.HeadAt(sh, number)]%2 == 1
	}
	for i, isReached := range reachedIn(t, sh, words) {
		isList = isList && !(isReached && hasColour(sh, words, i+1, colour))
	}
	return isList && trial.Number(words[api.Grey]) == 0
}

// readyWords: such words, with most objects in use, of both colours, and with anything in whatever is not looked at.
func readyWords(t *testing.T, from *trial.Source, sh api.Shape, colour int) []uint64 {
	t.Helper()
	words := from.Words(sh)
	for number := 1; number <= sh.Objects; number++ {
		words[trial.HeadAt(sh, number)] = tagged(from.Below(half)&^1, trial.Tags()[from.Below(3)])
		if from.Below(6) > 0 {
			words[trial.HeadAt(sh, number)] |= 1
		}
	}
	objects := objectsIn(sh, words)
	for _, at := range shown(sh) {
		words[at] = from.Handle(objects)
		if from.Below(3) == 0 {
			words[at] = 0
		}
	}
	var queue []int
	for number := 1; number <= sh.Objects; number++ {
		if words[trial.HeadAt(sh, number)]%2 == 1 && from.Below(5) == 0 {
			queue = slices.Insert(queue, from.Below(len(queue)+1), number)
		}
	}
	words = trial.Lay(sh, words, api.Queue, queue)
	words = trial.Lay(sh, words, api.Grey, nil)
	for i, isReached := range reachedIn(t, sh, words) {
		if isReached && hasColour(sh, words, i+1, colour) {
			words[trial.HeadAt(sh, i+1)] ^= 2
		}
	}
	if !isReady(t, sh, words, colour) {
		t.Fatalf("no such words: %+v %x", sh, words)
	}
	return words
}

// holdAllReached: just what is reached has been turned, the grey list is empty, and no root, slot or weak word has changed. It tells
// how many are reached.
func holdAllReached(t *testing.T, sh api.Shape, words []uint64, colour int, after []uint64) int {
	t.Helper()
	want, n := slices.Clone(words), 0
	for i, isReached := range reachedIn(t, sh, words) {
		if isReached {
			want[trial.HeadAt(sh, i+1)] ^= 2
			n++
		}
		if had := hasColour(sh, words, i+1, colour); hasColour(sh, after, i+1, colour) != (had || isReached) {
			t.Fatalf("object %d of %x: behind it %x", i+1, words, after)
		}
	}
	for at, kind := range kinds(sh) {
		if (kind == another || kind == aHead) && after[at] != want[at] {
			t.Fatalf("word %d of %x: behind it %x", at, words, after)
		}
	}
	if trial.Number(after[api.Grey]) != 0 {
		t.Fatalf("something waits: %x", after)
	}
	return n
}

// holdAlone: P20.2, by that hand; and Drain has pulled just what is reached.
func holdAlone(t *testing.T, sh api.Shape, words []uint64, colour, hand int) int {
	t.Helper()
	hands := make([][]api.Job, hand+1)
	hands[hand] = []api.Job{roots(colour), drain(colour)}
	x, a := run(t, sh, words, hands, nil)
	n := holdAllReached(t, sh, words, colour, x.Words)
	if a[hand][0].Val > uint64(n) || a[hand][1] != told(uint64(n)) {
		t.Fatal(sh, words, n, a)
	}
	return n
}

// All heaps of two objects with a slot, of which roots, slots, queue and heads are whatever they can be.
func TestP20_2_EachSmallHeap(t *testing.T) {
	sh := api.Shape{Objects: 2, Slots: 1, Hands: 1, Roots: 1, Weaks: 1} // the root is the word 9, the weak word 10, the heads are 11 and 15
	heads := []uint64{1, 3, 0, 2, half + 1}
	shows := []uint64{0, 1, 2, half + 1, 3}
	ready, reached := 0, map[int]int{}
	for _, list := range [][]int{nil, {1}, {2}, {1, 2}, {2, 1}} {
		for pick := range trial.Lists(5, 5) {
			words := puts(trial.Memory(sh, api.Grey, tagged(0, 7), cell{heads[pick[0]], 2}, cell{heads[pick[1]], 1}), 9, shows[pick[2]], 14, shows[pick[3]], 18, shows[pick[4]])
			words = trial.Lay(sh, words, api.Queue, list)
			for colour := range 2 {
				if isReady(t, sh, words, colour) {
					ready++
					reached[holdAlone(t, sh, words, colour, pick[2])]++
				}
			}
		}
	}
	if ready < 5000 || min(reached[0], reached[1], reached[2]) < 1000 {
		t.Error(ready, reached)
	}
}

// Any such words, of any shape.
func TestP20_2_AnyWords(t *testing.T) {
	from := trial.Source(31)
	reached, had, unreached, queued := 0, 0, 0, 0
	for range 5000 {
		sh, colour := from.Shape(), from.Below(2)
		words := readyWords(t, &from, sh, colour)
		n := holdAlone(t, sh, words, colour, from.Below(api.MaxHands))
		reached += n
		unreached += sh.Objects - n
		queue, _ := trial.ListIn(sh, words, api.Queue)
		queued += len(queue)
		for number := 1; number <= sh.Objects; number++ {
			if hasColour(sh, words, number, colour) {
				had++
			}
		}
	}
	if min(reached, unreached, queued, had) < 2000 {
		t.Error("something comes too seldom:", reached, unreached, queued, had)
	}
}

// The longest ways: a list of all objects, and each object's slots show the next ones.
func TestP20_2_LongWays(t *testing.T) {
	for slots := 1; slots <= api.MaxSlots; slots++ {
		sh := api.Shape{Objects: api.MaxObjects, Slots: slots, Hands: 7, Roots: 8}
		for _, from := range []int{1, 2, 40, 64} {
			for last := range slots {
				words := make([]uint64, trial.SizeOf(sh))
				for number := 1; number <= sh.Objects; number++ {
					words[trial.HeadAt(sh, number)] = 3
					if number < sh.Objects {
						words[trial.SlotAt(sh, number, last)] = uint64(number + 1)
					}
				}
				words[trial.RootAt(sh, 6, 7)] = uint64(from)
				if n := holdAlone(t, sh, words, 0, 7); n != 65-from {
					t.Error(slots, from, n)
				}
				words[trial.RootAt(sh, 6, 7)], words[api.Queue] = 0, tagged(from, 3)
				if n := holdAlone(t, sh, words, 0, 7); n != 65-from {
					t.Error(slots, from, n)
				}
				words[trial.RootAt(sh, 6, 7)], words[api.Queue] = tagged(from, 1), 0 // another generation's
				if n := holdAlone(t, sh, words, 0, 7); n != 0 {
					t.Error(slots, from, n)
				}
			}
		}
	}
}

// Heaps that runs of the layers below leave, cycle by cycle, with the colour turned each time; what is reached has the last colour,
// and what isn't has what it had.
func TestP20_2_MemoriesOfRuns(t *testing.T) {
	from := trial.Source(32)
	reached := 0
	for range 500 {
		sh := from.Shape()
		words := from.Ran(sh)
		for _, colour := range []int{1, 0, 1} {
			if !isReady(t, sh, words, colour) {
				t.Fatalf("%+v %x", sh, words)
			}
			reached += holdAlone(t, sh, words, colour, 0)
			x, _ := run(t, sh, words, [][]api.Job{{roots(colour), drain(colour)}}, nil)
			words = x.Words
		}
	}
	if reached < 1500 {
		t.Error(reached)
	}
}

// leftOf: of a hand's jobs, is there a Roots with a Drain behind it; and is there a Roots without one?
func leftOf(jobs []api.Job) (isDrained, isLeft bool) {
	for _, j := range jobs {
		if j.Kind == mark.Roots {
			isLeft = true
		} else if isLeft {
			isDrained, isLeft = true, false
		}
	}
	return isDrained, isLeft
}

// counts: how often each kind of thing comes in runs by several hands.
type counts struct {
	ends    int // runs that have ended
	waits   int // of these, those behind which something waits
	unseen  int // and those behind which something is white that is reached
	shared  int // runs in which two Drains have pulled something
	foreign int // objects that one hand has put on the list, and another one has pulled
	lost    int // CAS that were not done
}

func (c *counts) add(o counts) {
	c.ends += o.ends
	c.waits += o.waits
	c.unseen += o.unseen
	c.shared += o.shared
	c.foreign += o.foreign
	c.lost += o.lost
}

// holdTogether plays a run of one colour from words that are ready, by hands of which one has a Roots and a Drain behind it, and
// holds it to P20.3 to P20.5; P20.4 and P20.5 behind which step soever it stops.
func holdTogether(t *testing.T, sh api.Shape, words []uint64, colour int, hands [][]api.Job, schedule []int, most int) (api.Trace, counts) {
	t.Helper()
	if !isReady(t, sh, words, colour) || !slices.ContainsFunc(hands, func(jobs []api.Job) bool { isDrained, _ := leftOf(jobs); return isDrained }) {
		t.Fatalf("no such run: %+v %x %v", sh, words, hands)
	}
	jobs, x, a := jobsOf(t, sh, words, hands, schedule, most)
	holdNothingElse(t, sh, words, x)
	c := holdEachOnce(t, sh, words, jobs, x, a)
	if x.Ended {
		c.ends = 1
		c.waits, c.unseen = holdBySchedule(t, sh, words, colour, hands, jobs, x)
	}
	return x, c
}

// holdEachOnce: P20.4, by the steps: what is pulled was put on the list ahead of that, and each only once; and by the answers.
func holdEachOnce(t *testing.T, sh api.Shape, words []uint64, jobs []job, x api.Trace, a [][]api.Answer) counts {
	t.Helper()
	var c counts
	laid, pulled := map[int]job{}, map[int]job{}
	pullers := 0
	for _, j := range jobs {
		for _, number := range j.laid() {
			if _, isTwice := laid[number]; isTwice {
				t.Fatal("put on the list twice:", number, x)
			}
			laid[number] = j
		}
		numbers := j.pulled()
		for _, number := range numbers {
			if _, isTwice := pulled[number]; isTwice {
				t.Fatal("pulled twice:", number, x)
			}
			pulled[number] = j
		}
		if len(numbers) > 0 {
			pullers++
		}
		if hasEnded := j.Number < len(a[j.Hand]); hasEnded {
			want := len(numbers)
			if j.Kind == mark.Roots {
				want = len(j.laid())
			}
			if a[j.Hand][j.Number] != told(uint64(want)) {
				t.Fatal(j, a)
			}
		}
	}
	for number, j := range pulled {
		by, isLaid := laid[number]
		if !isLaid {
			t.Fatal("pulled, and never put on the list:", number, x)
		}
		if by.Hand != j.Hand {
			c.foreign++
		}
	}
	if pullers > 1 {
		c.shared = 1
	}
	for h := range a {
		c.lost += trial.CountLost(x, h, api.Grey)
	}
	return c
}

// holdBySchedule: P20.3, of a run that has ended. What waits was put there by a Roots behind all Drains; where each Roots has a Drain
// behind it nothing waits, and all that is reached has the colour. Else what it hasn't is reached from what waits: nobody has looked
// at the slots of that yet.
func holdBySchedule(t *testing.T, sh api.Shape, words []uint64, colour int, hands [][]api.Job, jobs []job, x api.Trace) (waits, unseen int) {
	t.Helper()
	list, isList := trial.ListIn(sh, x.Words, api.Grey)
	if !isList {
		t.Fatalf("no list: %x", x.Words)
	}
	isAllDrained := true
	for _, own := range hands {
		_, isLeft := leftOf(own)
		isAllDrained = isAllDrained && !isLeft
	}
	if isAllDrained && len(list) > 0 {
		t.Fatal("something waits behind all Drains:", list, x)
	}
	if len(list) == 0 {
		holdAllReached(t, sh, words, colour, x.Words)
		return 0, 0
	}
	for _, number := range list {
		holdPutBehind(t, number, hands, jobs)
	}
	if holdReachedByWaiting(t, sh, words, colour, list, x.Words) > 0 {
		unseen = 1
	}
	return 1, unseen
}

// holdPutBehind: it was put there by a Roots behind each Drain, and by a hand that has no Drain behind that Roots.
func holdPutBehind(t *testing.T, number int, hands [][]api.Job, jobs []job) {
	t.Helper()
	by := slices.IndexFunc(jobs, func(j job) bool { return slices.Contains(j.laid(), number) })
	if by < 0 || jobs[by].Kind != mark.Roots {
		t.Fatal("no Roots has put it there:", number, jobs)
	}
	if _, isLeft := leftOf(hands[jobs[by].Hand]); !isLeft {
		t.Fatal("one that has a Drain behind it:", number, jobs[by])
	}
	when := jobs[by].layAt(number)
	for _, j := range jobs {
		if j.Kind == mark.Drain && j.End() > when {
			t.Fatal("ahead of a Drain's end:", number, jobs[by], j)
		}
	}
}

// holdReachedByWaiting: all that has been turned is reached, and what is reached and hasn't been is reached from what waits. It tells
// how many these are.
func holdReachedByWaiting(t *testing.T, sh api.Shape, words []uint64, colour int, list []int, after []uint64) int {
	t.Helper()
	v := trial.LookAt(t, sh, words)
	var waiting []uint64
	for _, number := range list {
		waiting = append(waiting, trial.Own(v, number))
	}
	isWaitedFor, white := trial.Reached(v, waiting), 0
	for i, isReached := range reachedIn(t, sh, words) {
		at := trial.HeadAt(sh, i+1)
		switch isTurned := after[at] != words[at]; {
		case isTurned && (!isReached || after[at] != words[at]^2 || !hasColour(sh, after, i+1, colour)):
			t.Fatalf("object %d has been turned from %x to %x", i+1, words[at], after[at])
		case isReached && !isTurned && !isWaitedFor[i]:
			t.Fatalf("object %d is reached, but white, and nothing that waits leads to it: %v, %x", i+1, list, after)
		case isReached && !isTurned:
			white++
		}
	}
	return white
}

// Every order of the steps of some hands. One root shows object 1, which shows 2 and itself; object 3 has the colour, and shows 1.
func TestP20_3_EveryOrder(t *testing.T) {
	sh := api.Shape{Objects: 3, Slots: 1, Hands: 1, Roots: 1} // the root is the word 9, the heads are 10, 14 and 18
	chain := puts(trial.Memory(sh, api.Grey, tagged(0, half-2), cell{1, 9}, cell{1, 9}, cell{3, 9}), 9, 1, 3, 0, 13, 2, 17, 1, 21, 1)
	queue := puts(trial.Memory(sh, api.Queue, tagged(2, 4), cell{1, 9}, cell{1, 9}, cell{1, 9}), 9, 1, 2, 0, 16, 0, 13, 0, 17, 3, 21, 0)
	r, d := roots(1), drain(1)
	for _, c := range []struct {
		name  string
		words []uint64
		hands [][]api.Job
		least int // spots
		want  counts
	}{
		{"one beside a Drain", chain, [][]api.Job{{r, d}, {d}}, 100, counts{ends: 1, shared: 1, foreign: 1, lost: 1}},
		{"two alike", chain, [][]api.Job{{r, d}, {r, d}}, 500, counts{ends: 1, shared: 1, foreign: 1, lost: 1}},
		{"one beside a Roots", chain, [][]api.Job{{r, d}, {r}}, 200, counts{ends: 1, waits: 1, unseen: 1, foreign: 1}},
		{"a queue, and one beside a Roots", queue, [][]api.Job{{r, d}, {r}}, 500, counts{ends: 1, waits: 1, unseen: 1, foreign: 1, lost: 1}},
		{"a queue, and one beside a Drain", queue, [][]api.Job{{r, d}, {d}}, 500, counts{ends: 1, shared: 1, foreign: 1, lost: 1}},
		{"a Drain ahead", chain, [][]api.Job{{d, r, d}, {d, r}}, 200, counts{ends: 1, waits: 1, unseen: 1, shared: 1, foreign: 1, lost: 1}},
		{"a Roots behind", chain, [][]api.Job{{r, d, r}, {d, d}}, 200, counts{ends: 1, shared: 1, foreign: 1, lost: 1}},
	} {
		var sum counts
		spots := everyOrder(t, sh, c.words, c.hands, func(schedule []int) {
			_, n := holdTogether(t, sh, c.words, 1, c.hands, schedule, len(schedule))
			sum.add(n)
		})
		is := counts{min(sum.ends, 1), min(sum.waits, 1), min(sum.unseen, 1), min(sum.shared, 1), min(sum.foreign, 1), min(sum.lost, 1)}
		if spots < c.least || is != c.want {
			t.Errorf("%s: %d %+v", c.name, spots, sum)
		}
	}
}

// togetherJobs: for some hands, of which one has a Roots and a Drain behind it. Where isLeft is false, each Roots has a Drain behind
// it by its hand.
func togetherJobs(from *trial.Source, colour int, isLeft bool) [][]api.Job {
	hands := from.Jobs(1+from.Below(api.MaxHands), 3, func() api.Job { return api.Job{Kind: mark.Roots + from.Below(2), C: colour} })
	for h, jobs := range hands {
		if len(jobs) > 0 && !isLeft {
			hands[h] = append(jobs, drain(colour))
		}
	}
	h := from.Below(len(hands))
	hands[h] = append(hands[h], roots(colour), drain(colour))
	return hands
}

// Any hands, any schedules, any such words; runs that are left in the middle, too.
func TestP20_3_And_20_4_AnySchedule(t *testing.T) {
	from := trial.Source(33)
	for _, isLeft := range []bool{false, true} {
		var c counts
		for range 4000 {
			sh, colour := from.Shape(), from.Below(2)
			words := readyWords(t, &from, sh, colour)
			hands := togetherJobs(&from, colour, isLeft)
			_, n := holdTogether(t, sh, words, colour, hands, from.Schedule(from.Below(400)), api.MaxSteps)
			c.add(n)
			_, n = holdTogether(t, sh, words, colour, hands, from.Streaks(30), api.MaxSteps)
			c.add(n)
			_, n = holdTogether(t, sh, words, colour, hands, from.Schedule(from.Below(400)), from.Below(300))
			c.add(n)
		}
		if min(c.ends, c.shared, c.foreign, c.lost) < 1000 || isLeft && min(c.waits, c.unseen) < 20 || !isLeft && c.waits > 0 {
			t.Errorf("something comes too seldom: %v %+v", isLeft, c)
		}
	}
}

// A Roots of another hand that comes late: its object waits behind the Drain, and what that alone shows is white. Another Drain
// looks at it.
func TestP20_3_PutBehindTheDrain(t *testing.T) {
	words := puts(memory(0, cell{1, 9}, cell{1, 9}, cell{1, 9}), 10, 1, 3, 0, 17, 2, 18, 0, 22, 0, 23, 0)
	hands := [][]api.Job{{roots(1), drain(1)}, {roots(1)}}
	x, c := holdTogether(t, three, words, 1, hands, append([]int{1, 1, 1}, make([]int, 7)...), 100)
	if c != (counts{ends: 1, waits: 1, unseen: 1}) || x.Words[14] != 3 || x.Words[19] != 1 || trial.Number(x.Words[2]) != 1 {
		t.Error(c, x)
	}
	x, a := run(t, three, x.Words, [][]api.Job{{drain(1)}}, nil)
	if holdAllReached(t, three, words, 1, x.Words) != 2 || a[0][0] != told(2) {
		t.Error(x, a)
	}
}

// Heaps that runs of the layers below leave, by all hands, cycle by cycle.
func TestP20_3_MemoriesOfRuns(t *testing.T) {
	from := trial.Source(34)
	var c counts
	for range 500 {
		sh := from.Shape()
		words := from.Ran(sh)
		for _, colour := range []int{1, 0, 1} {
			x, n := holdTogether(t, sh, words, colour, togetherJobs(&from, colour, false), from.Schedule(200), api.MaxSteps)
			c.add(n)
			words = x.Words
		}
	}
	if min(c.ends, c.shared, c.foreign, c.lost) < 400 || c.waits > 0 {
		t.Errorf("something comes too seldom: %+v", c)
	}
}

// All hands drain one list of which each object shows some others: all together pull each of them once.
func TestP20_4_ManyDrains(t *testing.T) {
	from := trial.Source(35)
	sh := api.Shape{Objects: 12, Slots: 3, Hands: 2, Roots: 2}
	shared := 0
	for range 300 {
		words := make([]uint64, trial.SizeOf(sh))
		for number := 1; number <= sh.Objects; number++ {
			words[trial.HeadAt(sh, number)] = tagged(1, uint64(number))
			for slot := range sh.Slots {
				other := 1 + (number+slot*(slot+from.Below(2)))%sh.Objects // slot 0 shows the next one
				words[trial.SlotAt(sh, number, slot)] = tagged(other, uint64(other))
			}
		}
		words[trial.RootAt(sh, 1, 1)] = tagged(5, 5)
		hands := slices.Repeat([][]api.Job{slices.Repeat([]api.Job{drain(1)}, 20)}, api.MaxHands)
		hands[3] = []api.Job{roots(1), drain(1)}
		x, c := holdTogether(t, sh, words, 1, hands, from.Schedule(from.Below(500)), api.MaxSteps)
		_, a := run(t, sh, words, hands, nil)
		pulled := uint64(0)
		for _, answer := range slices.Concat(a...) {
			pulled += answer.Val
		}
		if n := holdAllReached(t, sh, words, 1, x.Words); n != sh.Objects || pulled != uint64(n)+a[3][0].Val {
			t.Fatal(n, a)
		}
		shared += c.shared
	}
	if shared < 200 {
		t.Error(shared)
	}
}

// Nothing changes but heads, links and Grey, of each shape, where all words are unlike; whatever the jobs, of both colours.
func TestP20_5_NothingElse(t *testing.T) {
	from := trial.Source(36)
	changed := map[int]int{}
	for _, sh := range trial.RightShapes() {
		for range 30 {
			words := trial.Memory(sh, api.Grey, tagged(from.Below(sh.Objects+1), trial.Tags()[from.Below(len(trial.Tags()))]))
			for number := 1; number <= sh.Objects; number++ {
				words[trial.HeadAt(sh, number)], words[trial.LinkAt(sh, number)] = from.Any()|1, from.Any()
				words[trial.NextAt(sh, number)] = from.Near(sh.Objects)
			}
			objects := objectsIn(sh, words)
			for _, at := range shown(sh) {
				words[at] = from.Handle(objects)
			}
			words[api.Queue] = from.Near(sh.Objects)
			x, _, e := mark.Play(sh, words, anyJobs(&from, both, api.MaxHands, 10), from.Schedule(500), 5000)
			if e != api.OK {
				t.Fatal(e)
			}
			holdNothingElse(t, sh, words, x)
			for at, kind := range kinds(sh) {
				if x.Words[at] != words[at] {
					changed[kind]++
				}
			}
		}
	}
	if changed[another] > 0 || min(changed[aHead], changed[aLink], changed[theGrey]) < 100 {
		t.Error(changed)
	}
}
