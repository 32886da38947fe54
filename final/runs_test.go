package final_test

import (
	"slices"
	"testing"

	"midden/api"
	"midden/final"
	"midden/mark"
	"midden/sweep"
	"midden/trial"
	"midden/view"
)

// dueIn: the objects that are due, by rising number.
func dueIn(sh api.Shape, words []uint64, colour int) []int {
	var out []int
	for number := 1; number <= sh.Objects; number++ {
		if trial.IsDue(headIn(sh, words, number), colour) {
			out = append(out, number)
		}
	}
	return out
}

// isReady: what P22.3 asks for: the grey list and the queue are lists, what is grey is in use (and has the colour, or it wouldn't be
// grey), and nothing on the queue is still to be queued.
func isReady(sh api.Shape, words []uint64, colour int) bool {
	grey, isGrey := trial.ListIn(sh, words, api.Grey)
	queue, isQueue := trial.ListIn(sh, words, api.Queue)
	return isGrey && isQueue &&
		!slices.ContainsFunc(grey, func(number int) bool {
			head := headIn(sh, words, number)
			return !isUsed(head) || isWhite(head, colour)
		}) &&
		!slices.ContainsFunc(queue, func(number int) bool { return trial.IsDue(headIn(sh, words, number), colour) })
}

// readyWords: such words, with anything in whatever is not looked at.
func readyWords(from *trial.Source, sh api.Shape, colour int) []uint64 {
	words := anyWords(from, sh)
	var grey, queue []int
	for number := 1; number <= sh.Objects; number++ {
		at := trial.HeadAt(sh, number)
		if head := words[at]; isUsed(head) && !isWhite(head, colour) && from.Below(2) == 0 {
			grey = slices.Insert(grey, from.Below(len(grey)+1), number)
		}
		if !trial.IsDue(words[at], colour) && from.Below(3) == 0 {
			queue = slices.Insert(queue, from.Below(len(queue)+1), number)
		}
	}
	return trial.Lay(sh, trial.Lay(sh, words, api.Grey, grey), api.Queue, queue)
}

// holdCleared: P22.2, of the words behind a Clear, and of what it has told. It tells how many weak words were wiped, and how many show
// something else.
func holdCleared(t *testing.T, sh api.Shape, words []uint64, colour int, after []uint64, answer api.Answer) (wiped, left int) {
	t.Helper()
	want := slices.Clone(words)
	for weak := range sh.Weaks {
		at := trial.WeakAt(sh, weak)
		head := trial.HeadAt(sh, trial.Number(words[at]))
		if head >= 0 && trial.White(words[head], trial.Upper(words[at]), colour) {
			want[at] = 0
			wiped++
		} else if words[at] != 0 {
			left++
		}
	}
	if !slices.Equal(after, want) || answer != told(uint64(wiped)) {
		t.Fatalf("behind %x: %x, %v; want %x, %d", words, after, answer, want, wiped)
	}
	return wiped, left
}

// clearAlone: P22.2, by that hand.
func clearAlone(t *testing.T, sh api.Shape, words []uint64, colour, hand int) (wiped, left int) {
	t.Helper()
	hands := make([][]api.Job, hand+1)
	hands[hand] = []api.Job{clearOf(colour)}
	x, a := run(t, sh, words, hands, nil)
	return holdCleared(t, sh, words, colour, x.Words, a[hand][0])
}

// All that a weak word can show of one object, whatever its head.
func TestP22_2_EachSmallHeap(t *testing.T) {
	sh := api.Shape{Objects: 2, Hands: 1, Roots: 1, Weaks: 2} // the weak words are 10 and 11, the heads 12 and 15
	wiped, left := 0, 0
	lowers := []int{0, 1, 2, 3, 5, 7, 0xd, 0xf, 0xff01, 0xffffffff, 0xfffffffe}
	for pick := range trial.Lists(len(lowers), 2) {
		for _, gen := range []uint64{0, 1, last} {
			for _, h := range []uint64{0, 1, tagged(1, 1), tagged(1, last), 2, tagged(2, 1), tagged(2, last), 3, tagged(0, 1), half - 1} {
				for colour := range 2 {
					words := puts(memory(sh, cell{tagged(lowers[pick[0]], gen), 7}, cell{tagged(lowers[pick[1]], 1), 8}), 10, h, 11, tagged(2, 1))
					w, l := clearAlone(t, sh, words, colour, pick[0]%8)
					wiped += w
					left += l
				}
			}
		}
	}
	if min(wiped, left) < 2000 {
		t.Error(wiped, left)
	}
}

// Any words, of any shape.
func TestP22_2_AnyWords(t *testing.T) {
	from := trial.Source(31)
	wiped, left := 0, 0
	for range 8000 {
		sh := from.Shape()
		w, l := clearAlone(t, sh, anyWords(&from, sh), from.Below(2), from.Below(api.MaxHands))
		wiped += w
		left += l
	}
	if min(wiped, left) < 2000 {
		t.Error("something comes too seldom:", wiped, left)
	}
}

// A Clear behind another one finds nothing; behind both colours' no weak word shows an object that is in use.
func TestP22_2_Twice(t *testing.T) {
	from := trial.Source(32)
	for range 2000 {
		sh := from.Shape()
		words := anyWords(&from, sh)
		x, a := run(t, sh, words, [][]api.Job{{clearOf(0), clearOf(0), clearOf(1), clearOf(1)}}, nil)
		if a[0][1] != told(0) || a[0][3] != told(0) {
			t.Fatal(sh, words, a)
		}
		v := trial.LookAt(t, sh, x.Words)
		for _, h := range v.Weaks {
			if trial.Shown(v, h) != 0 {
				t.Fatalf("%x of %x", h, x.Words)
			}
		}
	}
}

// reachedIn: what the taken ones, and those on the grey list, reach by good handles, by way of white objects alone; for each object.
// (What is white and was taken is no way: it leads on by itself.)
func reachedIn(t *testing.T, sh api.Shape, words []uint64, colour int) []bool {
	t.Helper()
	v := trial.LookAt(t, sh, words)
	starts, _ := trial.ListIn(sh, words, api.Grey)
	starts = append(starts, dueIn(sh, words, colour)...)
	var from []uint64
	for _, number := range starts {
		from = append(from, v.Objects[number-1].Slots...)
	}
	for i := range v.Objects {
		if head := headIn(sh, words, i+1); !isWhite(head, colour) || trial.IsDue(head, colour) {
			v.Objects[i] = api.Object{} // no handle of it is good, so no way leads to it
		}
	}
	return trial.Reached(v, from)
}

// A gathered is what comes of runs with one Call.
type gathered struct{ taken, reached, white, grey, queue int }

func (g gathered) least() int { return min(g.taken, g.reached, g.white, g.grey, g.queue) }

// hold: P22.3, of the words behind a Call, and of what it has told; and nothing else has changed.
func (g *gathered) hold(t *testing.T, sh api.Shape, words []uint64, colour int, after []uint64, answer api.Answer) {
	t.Helper()
	want, taken := slices.Clone(words), dueIn(sh, words, colour)
	queue, _ := trial.ListIn(sh, words, api.Queue)
	grey, _ := trial.ListIn(sh, words, api.Grey)
	g.taken += len(taken)
	g.queue += len(queue)
	g.grey += len(grey)
	for _, number := range taken {
		want[trial.HeadAt(sh, number)] ^= 2 + 8
		want[trial.NextAt(sh, number)] = after[trial.NextAt(sh, number)]
		queue = slices.Insert(queue, 0, number)
	}
	for i, isReached := range reachedIn(t, sh, words, colour) {
		at := trial.HeadAt(sh, i+1)
		if isReached {
			want[at] ^= 2
			g.reached++
		}
		if isWhite(want[at], colour) {
			g.white++
		}
		if words[at] != want[at] {
			want[at+1] = after[at+1]
		}
	}
	want[api.Grey], want[api.Queue] = after[api.Grey], after[api.Queue]
	want[api.Queued] += uint64(len(taken))
	if !slices.Equal(after, want) || trial.Number(after[api.Grey]) != 0 || answer != told(uint64(len(taken))) {
		t.Fatalf("behind %x in the colour %d: %x, %v; want %x", words, colour, after, answer, want)
	}
	if is, isWhole := trial.ListIn(sh, after, api.Queue); !isWhole || !slices.Equal(is, queue) {
		t.Fatalf("behind %x: the queue is %v; want %v", words, is, queue)
	}
}

// callAlone: P22.3, by that hand; and a second Call finds nothing.
func (g *gathered) callAlone(t *testing.T, sh api.Shape, words []uint64, colour, hand int) []uint64 {
	t.Helper()
	if !isReady(sh, words, colour) {
		t.Fatalf("no such words: %+v %x", sh, words)
	}
	hands := make([][]api.Job, hand+1)
	hands[hand] = []api.Job{callOf(colour)}
	x, a := run(t, sh, words, hands, nil)
	g.hold(t, sh, words, colour, x.Words, a[hand][0])
	y, a := run(t, sh, x.Words, hands, nil)
	if !slices.Equal(x.Words, y.Words) || a[hand][0] != told(0) || len(y.Steps) != sh.Objects+1 {
		t.Fatalf("behind %x: %x", x.Words, y.Words)
	}
	return x.Words
}

// All heaps of two objects with a slot, of which the heads, the slots and the lists are whatever they can be.
func TestP22_3_EachSmallHeap(t *testing.T) {
	sh := api.Shape{Objects: 2, Slots: 1, Hands: 1, Roots: 1} // the heads are the words 10 and 14
	heads := []uint64{0, 1, 3, 5, 7, 0xd, 0xf, half + 5, 0xfff6}
	shows := []uint64{0, 1, 2, half + 1}
	ready := 0
	var g gathered
	lists := [][]int{nil, {1}, {2}, {1, 2}, {2, 1}}
	for _, grey := range lists {
		for _, queue := range lists {
			for pick := range trial.Lists(len(heads), 2) {
				for slots := range trial.Lists(len(shows), 2) {
					words := puts(memory(sh, cell{heads[pick[0]], 2}, cell{heads[pick[1]], 1}), 13, shows[slots[0]], 17, shows[slots[1]])
					words = trial.Lay(sh, trial.Lay(sh, words, api.Grey, grey), api.Queue, queue)
					for colour := range 2 {
						if isReady(sh, words, colour) {
							ready++
							g.callAlone(t, sh, words, colour, slots[0])
						}
					}
				}
			}
		}
	}
	if ready < 20000 || g.least() < 500 {
		t.Error(ready, g)
	}
}

// Any such words, of any shape.
func TestP22_3_AnyWords(t *testing.T) {
	from := trial.Source(33)
	var g gathered
	for range 8000 {
		sh, colour := from.Shape(), from.Below(2)
		g.callAlone(t, sh, readyWords(&from, sh, colour), colour, from.Below(api.MaxHands))
	}
	if g.least() < 1500 {
		t.Errorf("something comes too seldom: %+v", g)
	}
}

// The longest ways: each object's slot shows the next one, and one of them alone is due; or all of them are.
func TestP22_3_LongWays(t *testing.T) {
	for slots := 1; slots <= api.MaxSlots; slots++ {
		sh := api.Shape{Objects: api.MaxObjects, Slots: slots, Hands: 7, Roots: 8, Weaks: 16}
		words := make([]uint64, trial.SizeOf(sh))
		for number := 1; number <= sh.Objects; number++ {
			words[trial.HeadAt(sh, number)] = tagged(3, 5)
			words[trial.SlotAt(sh, number, slots-1)] = tagged(number%sh.Objects+1, 5)
		}
		for _, first := range []int{1, 2, 40, 64} {
			var g gathered
			g.callAlone(t, sh, with(words, trial.HeadAt(sh, first), tagged(7, 5)), 0, 7)
			if g.taken != 1 || g.reached != 63 || g.white > 0 {
				t.Error(slots, first, g)
			}
			// One of the other objects has the colour, and none waits: so no way leads over it.
			g = gathered{}
			black := with(words, trial.HeadAt(sh, 50), tagged(1, 5))
			g.callAlone(t, sh, with(black, trial.HeadAt(sh, first), tagged(7, 5)), 0, 7)
			if reached := (49 - first + 64) % 64; g.reached != reached || g.white != 62-reached {
				t.Error(slots, first, g)
			}
		}
		for number := 1; number <= sh.Objects; number++ {
			words[trial.HeadAt(sh, number)] = tagged(0xff07, 5)
		}
		var g gathered
		after := g.callAlone(t, sh, words, 0, 0)
		if list, _ := trial.ListIn(sh, after, api.Queue); g.taken != 64 || len(list) != 64 || list[0] != 64 || list[63] != 1 || after[api.Queued] != 64 {
			t.Error(slots, g, list)
		}
	}
}

// Heaps that runs of the layers below leave, cycle by cycle as the collector will have it: what is reached is marked, the weak words are
// wiped, what is dead and has a finalizer is brought back and queued, the rest of the dead is given back, and such a heap is sound
// again. Each object is queued once at most, and told once.
func TestP22_3_CycleByCycle(t *testing.T) {
	from := trial.Source(34)
	var g gathered
	wiped, drawn, sound := 0, 0, 0
	for range 400 {
		sh := from.Shape()
		words := from.Ran(sh)
		for weak := range sh.Weaks {
			words[trial.WeakAt(sh, weak)] = from.Handle(trial.ObjectsIn(sh, words))
		}
		if !isAtRest(sh, words) {
			continue
		}
		queued := map[uint64]int{}
		for _, colour := range []int{1, 0, 1, 0} {
			words = changeSome(&from, sh, words)
			marked := playBelow(t, mark.Play, sh, words, []api.Job{{Kind: mark.Roots, C: colour}, {Kind: mark.Drain, C: colour}})
			x, a := run(t, sh, marked, [][]api.Job{{clearOf(colour)}}, nil)
			n, _ := holdCleared(t, sh, marked, colour, x.Words, a[0][0])
			wiped += n
			isSound := view.Check(sh, words) == api.OK
			words = g.callAlone(t, sh, x.Words, colour, from.Below(api.MaxHands))
			words = playBelow(t, sweep.Play, sh, words, []api.Job{{Kind: sweep.Pass, C: colour}})
			words[api.Phase] ^= 8 // its colour
			if isSound {
				sound++
				if e := view.Check(sh, words); e != api.OK {
					t.Fatalf("%+v %x: %v", sh, words, e)
				}
			}
			y, a := run(t, sh, words, [][]api.Job{slices.Repeat([]api.Job{due}, from.Below(3))}, nil)
			words = y.Words
			for _, told := range a[0] {
				if told.OK {
					drawn++
					queued[told.Val]++
				}
			}
		}
		for h, n := range queued {
			if n > 1 {
				t.Fatalf("%x was told %d times", h, n)
			}
		}
	}
	if min(g.taken, g.reached, wiped, drawn, sound) < 100 {
		t.Errorf("something comes too seldom: %+v %d %d %d", g, wiped, drawn, sound)
	}
}

// changeSome: the same words, but with some roots that show nothing, and some slots of objects in use that show other ones.
func changeSome(from *trial.Source, sh api.Shape, words []uint64) []uint64 {
	out := slices.Clone(words)
	for hand := range sh.Hands {
		for root := range sh.Roots {
			if from.Below(2) == 0 {
				out[trial.RootAt(sh, hand, root)] = 0
			}
		}
	}
	for number := 1; number <= sh.Objects; number++ {
		for slot := range sh.Slots {
			other := 1 + from.Below(sh.Objects)
			if isUsed(headIn(sh, out, number)) && isUsed(headIn(sh, out, other)) && from.Below(3) == 0 {
				out[trial.SlotAt(sh, number, slot)] = tagged(other, trial.Upper(headIn(sh, out, other)))
			}
		}
	}
	return out
}

// isAtRest: no hand was amid a job when the run was left: what is free is out of use.
func isAtRest(sh api.Shape, words []uint64) bool {
	free, isFree := trial.ListIn(sh, words, api.Free)
	return isFree && isReady(sh, words, 1) && !slices.ContainsFunc(free, func(number int) bool { return isUsed(headIn(sh, words, number)) })
}

// playBelow: the words behind jobs of a layer below, by one hand.
func playBelow(t *testing.T, play func(sh api.Shape, words []uint64, hands [][]api.Job, schedule []int, most int) (api.Trace, [][]api.Answer, api.Errno), sh api.Shape, words []uint64, jobs []api.Job) []uint64 {
	t.Helper()
	x, _, e := play(sh, words, [][]api.Job{jobs}, nil, api.MaxSteps)
	if e != api.OK || !x.Ended {
		t.Fatalf("%+v %x: %v", sh, words, e)
	}
	return x.Words
}

// Several hands call, any schedules: each object that was due is taken by one of them, and stands on the queue once, in front of what
// stood there.
func TestP22_3_SeveralHands(t *testing.T) {
	from := trial.Source(35)
	taken, shared := 0, 0
	for range 4000 {
		sh, colour := from.SmallShape(), from.Below(2)
		words := readyWords(&from, sh, colour)
		hands := slices.Repeat([][]api.Job{{callOf(colour)}}, 2+from.Below(3))
		schedule := from.Schedule(from.Below(200))
		if from.Below(2) == 0 {
			schedule = from.Streaks(20)
		}
		x, a := run(t, sh, words, hands, schedule)
		all := dueIn(sh, words, colour)
		before, _ := trial.ListIn(sh, words, api.Queue)
		queue, isWhole := trial.ListIn(sh, x.Words, api.Queue)
		if n := len(queue) - len(before); !isWhole || n != len(all) || !slices.Equal(queue[n:], before) || !slices.Equal(slices.Sorted(slices.Values(queue[:n])), all) {
			t.Fatalf("%+v %x: the queue is %v", sh, words, queue)
		}
		sum, some := uint64(0), 0
		for _, answers := range a {
			sum += answers[0].Val
			if answers[0].Val > 0 {
				some++
			}
		}
		if sum != uint64(len(all)) || x.Words[api.Queued] != words[api.Queued]+sum || trial.Number(x.Words[api.Grey]) != 0 {
			t.Fatalf("%+v %x: %v", sh, words, a)
		}
		taken += len(all)
		if some > 1 {
			shared++
		}
	}
	if taken < 2000 || shared < 200 {
		t.Error("something comes too seldom:", taken, shared)
	}
}

// holdDues plays a run from words whose queue is a list, and holds it to P22.4, behind which step soever it stops: what its Dues tell
// are unlike handles of objects of the queue, or of such as a Call of the run has put there. It tells how many of the Dues were OK, how
// many were not, and how many of the first ones told an object of a Call.
func holdDues(t *testing.T, sh api.Shape, words []uint64, hands [][]api.Job, schedule []int, most int) (drawn, nothing, called int) {
	t.Helper()
	queue, isWhole := trial.ListIn(sh, words, api.Queue)
	jobs, x, a := finals.Noted(t, sh, words, hands, schedule, most)
	holdNothingElse(t, sh, words, x)
	var byCall []int
	for _, j := range jobs {
		byCall = append(byCall, queuedBy(j)...)
	}
	seen, allDues, isDuesAlone := map[uint64]int{}, 0, true
	for _, j := range jobs {
		if j.Kind != final.Due {
			isDuesAlone = false
			continue
		}
		allDues++
		if j.Number >= len(a[j.Hand]) {
			continue
		}
		answer := a[j.Hand][j.Number]
		number := trial.Number(answer.Val)
		switch isByCall := slices.Contains(byCall, number); {
		case !answer.OK:
			nothing++
		case seen[answer.Val] > 0 || !isByCall && !slices.Contains(queue, number) || answer.Val != tagged(number, trial.Upper(headIn(sh, words, number))):
			t.Fatalf("%+v %x: %x is told by %+v", sh, words, answer.Val, *j)
		case isByCall:
			called++
		}
		if answer.OK {
			drawn++
			seen[answer.Val]++
		}
	}
	if !isWhole || isDuesAlone && x.Ended && drawn != min(allDues, len(queue)) {
		t.Fatalf("%+v %x %v: %d of %d are OK", sh, words, queue, drawn, allDues)
	}
	return drawn, nothing, called
}

// queuedBy: the objects that a Call has put on the queue.
func queuedBy(j *trial.Noted) []int {
	var out []int
	for _, s := range j.Steps {
		if j.Kind == final.Call && s.At == api.Queue && s.Act == api.CAS && s.OK {
			out = append(out, trial.Number(s.Put))
		}
	}
	return out
}

// Every order of the steps of some hands.
func TestP22_4_EveryOrder(t *testing.T) {
	words := puts(memory(bare, cell{half + 15, 7}, cell{13, 8}, cell{0xffffffff, 9}), 12, 0, 15, 1, 18, 2)
	for _, c := range []struct {
		name  string
		queue []int
		hands [][]api.Job
		least int // spots
	}{
		{"one for two", []int{2}, [][]api.Job{{due}, {due}}, 20},
		{"two for two", []int{3, 1}, [][]api.Job{{due}, {due}}, 20},
		{"two for three", []int{1, 2}, [][]api.Job{{due}, {due}, {due}}, 300},
		{"three for two, twice", []int{2, 3, 1}, [][]api.Job{{due, due}, {due, due}}, 300},
		{"three for one and two", []int{1, 3, 2}, [][]api.Job{{due}, {due, due}}, 100},
		{"none", nil, [][]api.Job{{due, due}, {due}}, 5},
	} {
		from := trial.Lay(bare, with(words, 3, tagged(0, last-1)), api.Queue, c.queue)
		drawn, nothing := 0, 0
		spots := everyOrder(t, bare, from, c.hands, func(schedule []int) {
			d, n, _ := holdDues(t, bare, from, c.hands, schedule, len(schedule))
			drawn += d
			nothing += n
		})
		jobs := len(slices.Concat(c.hands...))
		if spots < c.least || (drawn > 0) != (len(c.queue) > 0) || (nothing > 0) != (len(c.queue) < jobs) {
			t.Error(c.name, spots, drawn, nothing)
		}
	}
}

// Any hands, any schedules, from words whose queue is a list: Dues alone, Dues with other jobs amid them, and runs that are left in the
// middle.
func TestP22_4_AnySchedule(t *testing.T) {
	from := trial.Source(36)
	for _, isMixed := range []bool{false, true} {
		drawn, nothing, called := 0, 0, 0
		for range 4000 {
			sh, colour := from.SmallShape(), from.Below(2)
			words := readyWords(&from, sh, colour)
			hands := from.Jobs(1+from.Below(api.MaxHands), 4, func() api.Job {
				if isMixed && from.Below(3) == 0 {
					return []api.Job{clearOf(colour), callOf(colour)}[from.Below(2)]
				}
				return due
			})
			for _, schedule := range [][]int{from.Schedule(from.Below(200)), from.Streaks(15)} {
				for _, most := range []int{api.MaxSteps, from.Below(100)} {
					d, n, c := holdDues(t, sh, words, hands, schedule, most)
					drawn += d
					nothing += n
					called += c
				}
			}
		}
		if min(drawn, nothing) < 2000 || isMixed && called < 500 {
			t.Error("something comes too seldom:", isMixed, drawn, nothing, called)
		}
	}
}

// The longest queue, taken by all hands.
func TestP22_4_LongQueue(t *testing.T) {
	from := trial.Source(37)
	sh := api.Shape{Objects: api.MaxObjects, Slots: 2, Hands: 3, Roots: 1}
	for n := range api.MaxObjects + 1 {
		words := anyWords(&from, sh)
		var queue []int
		for number := 1; number <= n; number++ {
			queue = slices.Insert(queue, from.Below(len(queue)+1), number)
		}
		words = trial.Lay(sh, words, api.Queue, queue)
		hands := slices.Repeat([][]api.Job{slices.Repeat([]api.Job{due}, 7)}, api.MaxHands)
		drawn, nothing, _ := holdDues(t, sh, words, hands, from.Schedule(from.Below(600)), api.MaxSteps)
		if drawn != min(n, 56) || nothing != 56-drawn {
			t.Error(n, drawn, nothing)
		}
	}
}

// What a run of Dues leaves is taken by the next one, in the order of the queue; the next words stay as they are.
func TestP22_4_InOrder(t *testing.T) {
	words := puts(memory(three, cell{half + 15, 7}, cell{13, 8}, cell{15, 9}), 3, tagged(3, last), 22, 1, 14, 2, 18, 0)
	x, a := play(t, three, words, [][]api.Job{{due}, {due}}, nil, 100)
	y, b := play(t, three, x.Words, [][]api.Job{{due, due}}, nil, 100)
	if !slices.Equal(slices.Concat(a[0], a[1], b[0]), []api.Answer{told(3), told(half + 1), told(2), none}) || !slices.Equal(y.Words, with(words, 3, tagged(0, 2))) {
		t.Error(a, b, x, y)
	}
}
