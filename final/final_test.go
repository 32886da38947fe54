package final_test

import (
	"math"
	"slices"
	"testing"

	"midden/api"
	"midden/cells"
	"midden/final"
	"midden/mark"
	"midden/shade"
	"midden/trial"
	"midden/turn"
)

// The chapter's examples, step by step. Two objects with a slot: the weak word is the word 10, the heads are the words 11 and 15.
func TestP22_1_Examples(t *testing.T) {
	sh := api.Shape{Objects: 2, Slots: 1, Hands: 1, Roots: 1, Weaks: 1}
	words := puts(make([]uint64, trial.SizeOf(sh)), 10, 2, 11, 5, 14, 2, 15, 1)
	holdOne := func(j api.Job, words []uint64, steps []api.Step, want api.Answer, after []uint64) {
		t.Helper()
		finals.HoldSteps(t, sh, words, [][]api.Job{{j}}, nil, steps, [][]api.Answer{{want}}, after)
		play(t, sh, words, [][]api.Job{{j}}, nil, 100)
	}
	cleared := with(words, 10, 0)
	holdOne(clearOf(1), words, []api.Step{load(0, 10, 2), load(0, 15, 1), trial.CAS(0, 10, 2, 0)}, told(1), cleared)
	called := puts(cleared, 11, 15, 15, 3, 2, tagged(0, 4), 3, tagged(1, 1), 6, 1)
	holdOne(callOf(1), cleared, []api.Step{
		load(0, 11, 5), trial.CAS(0, 11, 5, 15), load(0, 2, 0), trial.Store(0, 12, 0, 0), trial.CAS(0, 2, 0, tagged(1, 1)),
		load(0, 15, 1),
		load(0, 2, tagged(1, 1)), load(0, 12, 0), trial.CAS(0, 2, tagged(1, 1), tagged(0, 2)), load(0, 14, 2),
		load(0, 15, 1), trial.CAS(0, 15, 1, 3), load(0, 2, tagged(0, 2)), trial.Store(0, 16, 0, 0), trial.CAS(0, 2, tagged(0, 2), tagged(2, 3)),
		load(0, 2, tagged(2, 3)), load(0, 16, 0), trial.CAS(0, 2, tagged(2, 3), tagged(0, 4)), load(0, 18, 0),
		load(0, 2, tagged(0, 4)),
		load(0, 3, 0), trial.Store(0, 13, 0, 0), trial.CAS(0, 3, 0, tagged(1, 1)), trial.Add(0, 6, 0, 1),
	}, told(1), called)
	drawn := with(called, 3, tagged(0, 2))
	holdOne(due, called, []api.Step{
		load(0, 3, tagged(1, 1)), load(0, 13, 0), trial.CAS(0, 3, tagged(1, 1), tagged(0, 2)), load(0, 11, 15),
	}, told(1), drawn)
	holdOne(due, drawn, []api.Step{load(0, 3, tagged(0, 2))}, none, drawn)
	holdOne(callOf(1), drawn, []api.Step{load(0, 11, 15), load(0, 15, 3), load(0, 2, tagged(0, 4))}, told(0), drawn)
	x, a := play(t, sh, words, [][]api.Job{{clearOf(1), callOf(1), due, due}}, nil, 100)
	if !slices.Equal(a[0], []api.Answer{told(1), told(1), told(1), none}) || !slices.Equal(x.Words, drawn) {
		t.Error(x, a)
	}
	if final.Clear != 1 || final.Call != 2 || final.Due != 3 {
		t.Error("the kinds", final.Clear, final.Call, final.Due)
	}
}

// A shows is what a weak word may hold of the objects of someObjects, and what comes of it in each colour.
type shows struct {
	h         uint64
	zero, one func(p *path, weak int)
}

func someObjects() []uint64 {
	return memory(three, cell{4*half + 1, 7}, cell{last*half + 0xffff00ff, 8}, cell{2, 0})
}

func eachShown() []shows {
	weak, judge, wipe := (*path).weak, (*path).judge, (*path).wipe
	out := []shows{
		{0, weak, weak}, {tagged(0, 4), weak, weak}, {math.MaxUint64, weak, weak},
		{tagged(1, 4), judge, wipe}, {tagged(2, last), wipe, judge},
		{tagged(1, 3), judge, judge}, {tagged(1, 5), judge, judge}, {1, judge, judge}, {tagged(2, last-1), judge, judge}, {2, judge, judge},
		{3, judge, judge}, {tagged(3, 1), judge, judge}, // out of use
	}
	for _, number := range trial.FarNumbers(3) {
		out = append(out, shows{tagged(number, 4), weak, weak}, shows{tagged(number, last), weak, weak})
	}
	return out
}

func (s shows) by(colour int) func(p *path, weak int) {
	return []func(*path, int){s.zero, s.one}[colour]
}

// Each weak word in its turn, whatever the two of them hold.
func TestP22_1_EachWeakWord(t *testing.T) {
	all := eachShown()
	for i, first := range all {
		for k, second := range all {
			for colour := range 2 {
				words := puts(someObjects(), 10, first.h, 11, second.h)
				p := path{t: t, sh: three, hand: (i + k) % 8, colour: colour, words: words}
				first.by(colour)(&p, 0)
				second.by(colour)(&p, 1)
				p.holdClear(words)
			}
		}
	}
}

// heads: the lower halves of heads, and whether an object with it is white, and is due, in each colour.
func heads() []struct {
	lower      int
	white, due [2]bool
} {
	never, zero, one := [2]bool{}, [2]bool{true, false}, [2]bool{false, true}
	return []struct {
		lower      int
		white, due [2]bool
	}{
		{0, never, never}, {2, never, never}, {4, never, never}, {6, never, never}, {0xe, never, never}, {0xfffffffe, never, never}, {0xff04, never, never},
		{1, one, never}, {3, zero, never}, {9, one, never}, {0xb, zero, never}, {0xff01, one, never}, {0xfffffffb, zero, never},
		{5, one, one}, {7, zero, zero}, {0xfe05, one, one}, {0x1ff07, zero, zero}, {0xfffffff5, one, one}, {0xfffffff7, zero, zero}, {0xf5, one, one}, {0xffff0007, zero, zero},
		{0xd, one, never}, {0xf, zero, never}, {0xffffffff, zero, never}, {0xfffffffd, one, never}, {0x1010d, one, never},
	}
}

// Each head of each object, whatever its generation: is it white, and is it due?
func TestP22_1_EachHead(t *testing.T) {
	for i, c := range heads() {
		for number := 1; number <= 3; number++ {
			for k, gen := range []uint64{0, 1, 7, last - 1, last} {
				for colour := range 2 {
					words := memory(three, cell{4, 7}, cell{half, 8}, cell{last*half + 2, 9})
					words[trial.HeadAt(three, number)] = tagged(c.lower, gen)
					words[10+i%2] = tagged(number, gen)
					p := path{t: t, sh: three, hand: (i + k) % 8, colour: colour, words: words}
					for weak := range 2 {
						switch {
						case weak != i%2:
							p.weak(weak)
						case c.white[colour]:
							p.wipe(weak)
						default:
							p.judge(weak)
						}
					}
					p.holdClear(words)
					p = path{t: t, sh: three, hand: (i + k) % 8, colour: colour, words: words}
					if c.due[colour] {
						p.call(number)
					} else {
						p.call()
					}
					p.holdCall(words)
				}
			}
		}
	}
}

// Each weak word of each shape is a word of its own, and all of them are looked at in order; as many shapes have none.
func TestP22_1_EachWeakPlace(t *testing.T) {
	without := 0
	for _, sh := range trial.RightShapes() {
		for weak := range sh.Weaks {
			number := 1 + weak%sh.Objects
			words := memory(sh)
			for i := range sh.Weaks {
				words[trial.WeakAt(sh, i)] = 0
			}
			words[trial.HeadAt(sh, number)], words[trial.WeakAt(sh, weak)] = tagged(3, 6), tagged(number, 6)
			p := path{t: t, sh: sh, hand: 7, words: words}
			for i := range sh.Weaks {
				if i == weak {
					p.wipe(i)
				} else {
					p.weak(i)
				}
			}
			p.holdClear(words)
		}
		if sh.Weaks > 0 {
			continue
		}
		without++
		for i, phase := range append(trial.Values(), uint64(sh.Objects)) { // whatever it shows
			words := with(memory(sh), api.Phase, phase)
			words[trial.HeadAt(sh, sh.Objects)] = 3
			p := path{t: t, sh: sh, hand: i % 8, words: words}
			p.load(api.Phase)
			p.holdClear(words)
		}
	}
	if without == 0 {
		t.Error("no shape is without weak words")
	}
}

// All weak words of the greatest shape, whatever each of them shows.
func TestP22_1_AllWeakWords(t *testing.T) {
	sh := api.Shape{Objects: 3, Hands: 1, Roots: 1, Weaks: api.MaxWeaks}
	all := eachShown()
	for from := range all {
		for colour := range 2 {
			words := memory(sh, cell{4*half + 1, 7}, cell{last*half + 0xffff00ff, 8}, cell{2, 0})
			for weak := range sh.Weaks {
				words[trial.WeakAt(sh, weak)] = all[(from+weak)%len(all)].h
			}
			p := path{t: t, sh: sh, hand: 3, colour: colour, words: words}
			for weak := range sh.Weaks {
				all[(from+weak)%len(all)].by(colour)(&p, weak)
			}
			p.holdClear(words)
		}
	}
}

// Each choice of three objects that are due, whatever the lists show: those that are there, and numbers that are none.
func TestP22_1_EachThree(t *testing.T) {
	firsts := append(trial.FarNumbers(3), 0)
	for pick := range trial.Lists(2, 3) {
		for _, grey := range firsts {
			for _, queue := range append(firsts, 1, 2, 3) {
				for colour := range 2 {
					var numbers []int
					words := puts(memory(three), api.Grey, tagged(grey, last), api.Queue, tagged(queue, last-1), 15, 0, 19, 0, 23, 0)
					for i, isDue := range pick {
						words[trial.HeadAt(three, i+1)] = tagged(0xfe01+2*colour, 5)
						if isDue == 1 {
							numbers = append(numbers, i+1)
							words[trial.HeadAt(three, i+1)] = tagged(0xff07-2*colour, 6)
						}
					}
					p := path{t: t, sh: three, hand: 5, colour: colour, words: words}
					p.call(numbers...)
					p.holdCall(words)
					order := slices.Clone(numbers)
					slices.Reverse(order)
					if queue == 0 {
						if list, isWhole := trial.ListIn(three, p.words, api.Queue); !isWhole || !slices.Equal(list, order) {
							t.Fatal(numbers, list)
						}
					}
				}
			}
		}
	}
}

// All objects of each shape, and each alone.
func TestP22_1_EachObject(t *testing.T) {
	for _, sh := range trial.RightShapes() {
		for only := 0; only <= sh.Objects; only++ { // 0: all
			words := memory(sh)
			var numbers []int
			for number := 1; number <= sh.Objects; number++ {
				at := trial.HeadAt(sh, number)
				words[at] = tagged(2, uint64(number))
				for slot := range sh.Slots {
					words[trial.SlotAt(sh, number, slot)] = tagged(1+(number+slot)%sh.Objects, uint64(1+(number+slot)%sh.Objects))
				}
				if only == 0 || only == number {
					words[at] = tagged(7, uint64(number))
					numbers = append(numbers, number)
				}
			}
			p := path{t: t, sh: sh, hand: 7, words: words}
			p.call(numbers...)
			p.holdCall(words)
		}
	}
}

// A grey list is there already: the taken ones come ahead of it, and all of it is looked at. A queue is there already: the taken ones
// come ahead of it too.
func TestP22_1_ListsBefore(t *testing.T) {
	for slots := range api.MaxSlots + 1 {
		sh := api.Shape{Objects: 6, Slots: slots, Hands: 1, Roots: 1}
		for _, tag := range trial.Tags() {
			words := make([]uint64, trial.SizeOf(sh))
			for number := 1; number <= sh.Objects; number++ {
				words[trial.HeadAt(sh, number)] = tagged([]int{7, 1, 7, 3, 1, 3}[number-1], uint64(number))
				for slot := range slots { // 1 shows 4, 4 shows 6, and so on; 5 and 2 are of the other colour
					other := 1 + (number+2+slot)%sh.Objects
					words[trial.SlotAt(sh, number, slot)] = tagged(other, uint64(other))
				}
			}
			words[api.Grey], words[api.Queue] = tagged(0, tag), tagged(0, tag)
			words = trial.Lay(sh, trial.Lay(sh, words, api.Grey, []int{5, 2}), api.Queue, []int{2, 4, 5})
			p := path{t: t, sh: sh, hand: 2, words: words}
			p.call(1, 3)
			p.holdCall(words)
			if list, _ := trial.ListIn(sh, p.words, api.Queue); !slices.Equal(list, []int{3, 1, 2, 4, 5}) {
				t.Error(list)
			}
		}
	}
}

// What a slot of a taken one may hold.
func TestP22_1_EachSlot(t *testing.T) {
	for i, c := range heads() {
		for _, h := range []uint64{0, 2, tagged(2, 6), tagged(2, 5), tagged(1, 1), tagged(1, 0), 3, 4, tagged(2, last), math.MaxUint64} {
			for colour := range 2 {
				words := puts(memory(three, cell{half + 5 + 2*uint64(1-colour), 7}, cell{tagged(c.lower, 6), 8}, cell{half, 9}), 15, h, 19, tagged(1, 1))
				p := path{t: t, sh: three, hand: i % 8, colour: colour, words: words}
				if c.due[colour] {
					p.call(1, 2)
				} else {
					p.call(1)
				}
				p.holdCall(words)
				isShaded := c.white[colour] && (h == tagged(2, 6) || c.due[colour])
				if is := p.words[16] != words[16]; is != isShaded {
					t.Fatal(c, h, p.words)
				}
			}
		}
	}
}

// Queued goes around its end, and nothing else is counted.
func TestP22_1_Queued(t *testing.T) {
	for _, queued := range trial.Values() {
		words := with(memory(bare, cell{5, 7}, cell{1, 8}, cell{5, 9}), api.Queued, queued)
		p := path{t: t, sh: bare, colour: 1, words: words}
		p.call(1, 3)
		p.holdCall(words)
		if p.words[api.Queued] != queued+2 {
			t.Error(queued, p.words)
		}
	}
}

// The queue in each order of each of its objects, whatever stands in the upper halves, and whatever the objects are; each Due takes
// the first one, and the last one finds what is no object's number.
func TestP22_1_EachQueue(t *testing.T) {
	heads := []uint64{tagged(0xffffffff, 6), tagged(0xf, last), tagged(2, 9)}
	for _, queue := range [][]int{nil, {1}, {2}, {3}, {1, 2}, {2, 1}, {1, 3}, {3, 2}, {1, 2, 3}, {3, 2, 1}, {2, 3, 1}} {
		for _, end := range append(trial.FarNumbers(3), 0) {
			for _, tag := range trial.Tags() {
				words := memory(three, cell{heads[0], 7}, cell{heads[1], 8}, cell{heads[2], 9})
				words[api.Queue] = tagged(0, tag)
				words = trial.Lay(three, words, api.Queue, queue)
				if len(queue) > 0 {
					words[trial.NextAt(three, queue[len(queue)-1])] = tagged(end, tag)
				} else {
					words[api.Queue] = tagged(end, tag)
				}
				for i, number := range queue {
					p := path{t: t, sh: three, hand: i + 3, words: words}
					next := trial.NextAt(three, number)
					p.load(api.Queue)
					p.load(next)
					p.cas(api.Queue, trial.Turned(words[api.Queue], trial.Number(words[next])))
					p.look(number)
					p.holdDue(words, told(tagged(number, trial.Upper(heads[number-1]))))
					words = p.words
				}
				p := path{t: t, sh: three, hand: 1, words: words}
				p.load(api.Queue)
				p.holdDue(words, none)
			}
		}
	}
}

// A queue that leads round and round has no end: each Due tells an object of it.
func TestP22_1_RingsInTheQueue(t *testing.T) {
	words := puts(memory(three, cell{half + 0xd, 7}, cell{0xf, 8}, cell{5, 9}), 3, tagged(1, 4), 14, 2, 18, 1)
	_, a := play(t, three, words, [][]api.Job{slices.Repeat([]api.Job{due}, 7)}, nil, 100)
	if one, two := told(half+1), told(2); !slices.Equal(a[0], []api.Answer{one, two, one, two, one, two, one}) {
		t.Error(a)
	}
}

// An object that is due, and stands on the grey list by hand, leads that list round and round: the run stops behind most steps.
func TestP22_1_DueAndGrey(t *testing.T) {
	words := puts(memory(three, cell{5, 0}, cell{3, 0}, cell{3, 0}), 2, tagged(1, 3), 15, 0)
	for most := range 100 {
		x, a := play(t, three, words, [][]api.Job{{callOf(1), due}}, nil, most)
		if x.Ended || len(x.Steps) != most || len(a[0]) > 0 {
			t.Fatal(most, x, a)
		}
	}
	// One that is due, and stands on the queue by hand, is queued once more.
	words = puts(memory(three, cell{5, 0}, cell{3, 0}, cell{3, 0}), 3, tagged(1, 3), 14, 2, 15, 0, 18, 0)
	p := path{t: t, sh: three, colour: 1, words: words}
	p.call(1)
	p.holdCall(words)
	if p.words[3] != tagged(1, 4) || p.words[14] != 1 {
		t.Error(p.words)
	}
}

// Of a colour the last bit counts.
func TestP22_1_Colours(t *testing.T) {
	words := puts(memory(three, cell{5, 7}, cell{half + 7, 8}, cell{3, 9}), 10, 1, 11, tagged(2, 1), 15, 0, 19, 0)
	for _, colour := range append(trial.Ends(), 0, 1, 2, 3, 4, 5, -3, -4, 1<<32, 1<<32+1, 255, 256) {
		isOdd := colour%2 != 0
		p := path{t: t, sh: three, hand: -7, words: words}
		if isOdd {
			p.wipe(0)
			p.judge(1)
		} else {
			p.judge(0)
			p.wipe(1)
		}
		steps, a, after := trial.Drive(t, final.Wipe(three, -7, colour), words, nil)
		if !slices.Equal(steps, p.steps) || a != told(1) || !slices.Equal(after, p.words) {
			t.Error("Wipe", colour, steps, a)
		}
		steps, a, after = trial.Drive(t, final.Gather(three, -7, colour), words, nil)
		taken, left := 2, 1
		if isOdd {
			taken, left = 1, 2
		}
		if a != told(1) || headIn(three, after, taken) != headIn(three, words, taken)^2+8 || headIn(three, after, left) != headIn(three, words, left) || trial.Number(after[3]) != taken {
			t.Error("Gather", colour, steps, a)
		}
	}
}

// A shape that is none: nothing is promised of it but that tasks are made, and go on.
func TestP22_1_NoShape(t *testing.T) {
	words := puts(memory(three, cell{5, 0}, cell{7, 0}, cell{1, 0}), 3, 1, 10, 1)
	for i, sh := range trial.WrongShapes() {
		hand := i%11 - 2
		for _, k := range []turn.Task{final.Wipe(sh, hand, i), final.Gather(sh, hand, i), final.Take(sh, hand)} {
			m, _ := cells.New(words)
			for range 20 {
				if s, state := k.Step(m); s.Hand != hand || state == turn.Ended {
					break
				}
			}
		}
	}
}

// amidOthers fails, if a task of hand 4 on these words doesn't go as do tells, with what others do amid it.
func amidOthers(t *testing.T, name string, words []uint64, k turn.Task, want api.Answer, do func(p *path)) {
	t.Helper()
	p := path{t: t, sh: three, hand: 4, colour: 1, words: words}
	do(&p)
	steps, a, after := trial.Drive(t, k, words, p.amid)
	if !slices.Equal(steps, p.steps) || a != want || !slices.Equal(after, p.words) {
		t.Errorf("%s: %v %v %x; want %v %v %x", name, steps, a, after, p.steps, want, p.words)
	}
}

// What others do between the steps of a Wipe: both weak words show object 1, which is white.
func TestP22_1_WipeAmidOthers(t *testing.T) {
	words := puts(memory(three, cell{5*half + 1, 7}, cell{3, 8}, cell{1, 9}), 10, tagged(1, 5), 11, tagged(1, 5))
	hold := func(name string, want uint64, do func(p *path)) {
		t.Helper()
		amidOthers(t, name, words, final.Wipe(three, 4, 1), told(want), do)
	}
	hold("nothing", 2, func(p *path) {
		p.wipe(0)
		p.wipe(1)
	})
	for _, h := range []uint64{0, tagged(1, 6), 2, 3, math.MaxUint64} {
		hold("a weak word is set ahead of the CAS", 1, func(p *path) {
			p.judge(0)
			p.other(10, h)
			p.lost(10)
			p.wipe(1)
		})
		hold("the last one is", 1, func(p *path) {
			p.wipe(0)
			p.judge(1)
			p.other(11, h)
			p.lost(11)
		})
		hold("a weak word is set behind its load", 1, func(p *path) {
			p.weak(0)
			p.other(10, h)
			p.look(1)
			p.lost(10)
			p.wipe(1)
		})
	}
	hold("a weak word is set ahead of its load", 2, func(p *path) {
		p.other(10, 3)
		p.wipe(0)
		p.wipe(1)
	})
	hold("and shows none that is there", 1, func(p *path) {
		p.other(10, 4)
		p.weak(0)
		p.wipe(1)
	})
	for _, head := range []uint64{5*half + 3, 4*half + 1, 5 * half, 6*half + 1} {
		hold("the object is white no more", 0, func(p *path) {
			p.weak(0)
			p.other(12, head)
			p.look(1)
			p.judge(1)
		})
		hold("it is so behind the look at it", 1, func(p *path) {
			p.judge(0)
			p.other(12, head)
			p.cas(10, 0)
			p.judge(1)
		})
	}
	hold("the weak word is another one, and is the same again", 2, func(p *path) {
		p.weak(0)
		p.other(10, 0)
		p.look(1)
		p.other(10, tagged(1, 5))
		p.cas(10, 0)
		p.wipe(1)
	})
	hold("one that has been gone by is set", 1, func(p *path) {
		p.other(10, 2)
		p.judge(0)
		p.other(10, tagged(1, 5))
		p.wipe(1)
	})
}

// What others do between the steps of a Gather: 1 and 3 are due, 2 is white, and 1 shows it.
func TestP22_1_GatherAmidOthers(t *testing.T) {
	words := puts(memory(three, cell{5*half + 5, 7}, cell{1, 8}, cell{0xff05, 9}), 15, 2, 19, 0, 23, 0)
	hold := func(name string, want uint64, do func(p *path)) {
		t.Helper()
		amidOthers(t, name, words, final.Gather(three, 4, 1), told(want), do)
	}
	hold("nothing", 2, func(p *path) { p.call(1, 3) })
	for _, head := range []uint64{5*half + 7, 5*half + 15, 5*half + 13, 5*half + 0x105, 6*half + 5, 0, 1} {
		hold("another head ahead of the CAS", 1, func(p *path) {
			p.look(1)
			p.other(12, head)
			p.lost(12)
			p.look(2)
			p.take(3)
			p.grey(3)
			p.restAndQueue()
		})
		hold("the last one's", 1, func(p *path) {
			p.take(1)
			p.grey(1)
			p.look(2)
			p.look(3)
			p.other(20, head)
			p.lost(20)
			p.restAndQueue()
		})
		hold("another head behind the CAS", 2, func(p *path) {
			p.take(1)
			p.other(12, head)
			p.grey(1)
			p.look(2)
			p.take(3)
			p.grey(3)
			p.restAndQueue()
		})
	}
	hold("another one becomes due ahead of its look", 3, func(p *path) {
		p.take(1)
		p.grey(1)
		p.other(16, last*half+0xfff5)
		p.take(2)
		p.grey(2)
		p.take(3)
		p.grey(3)
		p.restAndQueue()
	})
	hold("another one becomes due behind it", 2, func(p *path) {
		p.take(1)
		p.grey(1)
		p.look(2)
		p.other(16, 5)
		p.take(3)
		p.grey(3)
		p.restAndQueue()
	})
	hold("Grey is turned ahead of the CAS", 2, func(p *path) {
		p.take(1)
		p.load(2)
		p.store(13, 0)
		p.other(2, tagged(9, 6))
		p.lost(2)
		p.grey(1)
		p.look(2)
		p.take(3)
		p.load(2)
		p.store(21, 1)
		p.other(2, tagged(1, 8)) // the same object, with another tag
		p.lost(2)
		p.grey(3)
		p.restAndQueue()
	})
	hold("another one has pulled all that waited", 2, func(p *path) {
		p.take(1)
		p.grey(1)
		p.look(2)
		p.take(3)
		p.grey(3)
		p.other(2, tagged(0, 4))
		p.restAndQueue()
	})
	hold("another hand makes the queue turn", 2, func(p *path) {
		p.take(1)
		p.grey(1)
		p.look(2)
		p.take(3)
		p.grey(3)
		p.rest()
		p.other(3, tagged(2, last))
		p.load(3)
		p.store(14, 2)
		p.other(3, 2)
		p.lost(3)
		p.load(3)
		p.store(14, 2)
		p.other(3, tagged(0, 1))
		p.lost(3)
		p.lay(api.Queue, 14, 1)
		p.other(6, math.MaxUint64)
		p.count()
		p.other(3, tagged(0, 3)) // 1 has been taken by then
		p.queue(3)
	})
	hold("the heads are others by the queue", 2, func(p *path) {
		p.take(1)
		p.grey(1)
		p.look(2)
		p.take(3)
		p.grey(3)
		p.rest()
		p.other(12, 5)
		p.queue(1)
		p.other(20, 0)
		p.queue(3)
	})
}

// What others do between the steps of a Take: the queue is 2, 1.
func TestP22_1_TakeAmidOthers(t *testing.T) {
	words := puts(memory(three, cell{5*half + 15, 7}, cell{7*half + 15, 8}, cell{5, 9}), 3, tagged(2, last), 18, tagged(1, 4), 14, 0)
	hold := func(name string, want api.Answer, do func(p *path)) {
		t.Helper()
		amidOthers(t, name, words, final.Take(three, 4), want, do)
	}
	draw := func(p *path, number, next int) {
		p.load(3)
		p.load(trial.NextAt(three, number))
		p.cas(3, trial.Turned(p.words[3], next))
	}
	hold("nothing", told(tagged(2, 7)), func(p *path) {
		draw(p, 2, 1)
		p.look(2)
	})
	hold("another one takes it first", told(tagged(1, 5)), func(p *path) {
		p.load(3)
		p.load(18)
		p.other(3, tagged(1, 0))
		p.lost(3)
		draw(p, 1, 0)
		p.look(1)
	})
	hold("another one takes it ahead of the second load", told(tagged(1, 5)), func(p *path) {
		p.load(3)
		p.other(3, tagged(1, 0))
		p.load(18)
		p.lost(3)
		draw(p, 1, 0)
		p.look(1)
	})
	hold("others take all", none, func(p *path) {
		p.load(3)
		p.load(18)
		p.other(3, tagged(0, 1))
		p.lost(3)
		p.load(3)
	})
	hold("one is put ahead of it", told(3), func(p *path) {
		p.load(3)
		p.load(18)
		p.other(3, tagged(3, 0))
		p.lost(3)
		p.load(3)
		p.other(22, 2)
		p.load(22)
		p.cas(3, tagged(2, 1))
		p.look(3)
	})
	hold("the same one with another tag", told(tagged(2, 7)), func(p *path) {
		p.load(3)
		p.load(18)
		p.other(3, tagged(2, 5))
		p.lost(3)
		draw(p, 2, 1)
		p.look(2)
	})
	hold("the next word changes behind its load", told(tagged(2, 7)), func(p *path) {
		p.load(3)
		p.load(18)
		p.other(18, 3)
		p.cas(3, tagged(1, 0))
		p.look(2)
	})
	hold("the next word changes ahead of it", told(tagged(2, 7)), func(p *path) {
		p.load(3)
		p.other(18, tagged(3, 1))
		p.load(18)
		p.cas(3, tagged(3, 0))
		p.look(2)
	})
	hold("the head is another one", told(tagged(2, 9)), func(p *path) {
		draw(p, 2, 1)
		p.other(16, 9*half)
		p.look(2)
	})
}

// Two hands at one weak word: one CAS is done. The weak word alone tells which.
func TestP22_1_TwoWipeOne(t *testing.T) {
	sh := api.Shape{Objects: 1, Hands: 1, Roots: 1, Weaks: 1} // the weak word is the word 10, the head the word 11
	words := puts(memory(sh, cell{3, 7}), 10, 1)
	finals.HoldSteps(t, sh, words, [][]api.Job{{clearOf(0)}, {clearOf(0)}}, []int{0, 1, 0, 1, 1, 0}, []api.Step{
		load(0, 10, 1), load(1, 10, 1), load(0, 11, 3), load(1, 11, 3), trial.CAS(1, 10, 1, 0), trial.Lost(0, 10, 0),
	}, [][]api.Answer{{told(0)}, {told(1)}}, with(words, 10, 0))
}

// Two hands at one object that is due: one takes it, and the other one, which may pull it off the grey list, doesn't queue it.
func TestP22_1_TwoTakeOne(t *testing.T) {
	sh := api.Shape{Objects: 1, Hands: 1, Roots: 1} // the head is the word 10
	words := memory(sh, cell{5, 7})
	finals.HoldSteps(t, sh, words, [][]api.Job{{callOf(1)}, {callOf(1)}}, []int{0, 1, 1, 0, 1, 1, 1, 0, 0, 0, 1, 0}, []api.Step{
		load(0, 10, 5), load(1, 10, 5), trial.CAS(1, 10, 5, 15), trial.Lost(0, 10, 15),
		load(1, 2, 0), trial.Store(1, 11, 7, 0), trial.CAS(1, 2, 0, tagged(1, 1)),
		load(0, 2, tagged(1, 1)), load(0, 11, 0), trial.CAS(0, 2, tagged(1, 1), tagged(0, 2)),
		load(1, 2, tagged(0, 2)), load(0, 2, tagged(0, 2)), // and hand 0 has ended
		load(1, 3, 0), trial.Store(1, 12, 1012, 0), trial.CAS(1, 3, 0, tagged(1, 1)), trial.Add(1, 6, 1006, 1007),
	}, [][]api.Answer{{told(0)}, {told(1)}}, puts(words, 10, 15, 2, tagged(0, 2), 3, tagged(1, 1), 6, 1007, 11, 0, 12, 0))
}

// Two hands with an object each meet at the queue.
func TestP22_1_TwoMeetAtTheQueue(t *testing.T) {
	sh := api.Shape{Objects: 2, Hands: 1, Roots: 1} // the heads are the words 10 and 13
	words := memory(sh, cell{5, 7}, cell{7, 8})
	hands := [][]api.Job{{callOf(1)}, {callOf(0)}}
	x, a := play(t, sh, words, hands, slices.Concat(make([]int, 12), slices.Repeat([]int{1}, 12), []int{0, 1, 1, 0, 0}), 100)
	steps := []api.Step{
		load(0, 3, 0), trial.Store(0, 12, 1012, 0),
		load(1, 3, 0), trial.Store(1, 15, 1015, 0),
		trial.CAS(0, 3, 0, tagged(1, 1)), trial.Lost(1, 3, tagged(1, 1)), load(1, 3, tagged(1, 1)), trial.Add(0, 6, 1006, 1007),
		trial.Store(1, 15, 0, 1), trial.CAS(1, 3, tagged(1, 1), tagged(2, 2)), trial.Add(1, 6, 1007, 1008),
	}
	var atQueue []api.Step
	for _, s := range x.Steps {
		if slices.Contains([]int{3, 6, 12, 15}, s.At) {
			atQueue = append(atQueue, s)
		}
	}
	if !x.Ended || !slices.Equal(slices.Concat(a...), []api.Answer{told(1), told(1)}) || !slices.Equal(atQueue, steps) {
		t.Error(x, a)
	}
}

// Two hands at one queue.
func TestP22_1_TwoTakeFromTheQueue(t *testing.T) {
	words := puts(memory(bare, cell{half + 13, 7}, cell{13, 8}, cell{15, 9}), 3, tagged(3, last), 18, 1, 12, 2, 15, 0)
	finals.HoldSteps(t, bare, words, [][]api.Job{{due, due}, {due, due}}, []int{0, 1, 0, 1, 0, 1, 0, 1, 0, 1, 1, 0, 1, 0, 0, 0}, []api.Step{
		load(0, 3, tagged(3, last)), load(1, 3, tagged(3, last)), load(0, 18, 1), load(1, 18, 1), trial.CAS(0, 3, tagged(3, last), 1), trial.Lost(1, 3, 1),
		load(0, 16, 15), load(1, 3, 1), load(0, 3, 1), load(1, 12, 2), trial.CAS(1, 3, 1, tagged(2, 1)), load(0, 12, 2), load(1, 10, half+13), trial.Lost(0, 3, tagged(2, 1)),
		load(0, 3, tagged(2, 1)), load(0, 15, 0),
		load(1, 3, tagged(2, 1)), trial.CAS(0, 3, tagged(2, 1), tagged(0, 2)), load(1, 15, 0), load(0, 13, 13), trial.Lost(1, 3, tagged(0, 2)), load(1, 3, tagged(0, 2)),
	}, [][]api.Answer{{told(3), told(2)}, {told(half + 1), none}}, with(words, 3, tagged(0, 2)))
}

// What the layers below have shaded is looked at, and what was taken off their list isn't.
func TestP22_1_WithTheLayersBelow(t *testing.T) {
	words := puts(memory(three, cell{5, 7}, cell{1, 8}, cell{1, 9}), 9, 2, 15, 0, 19, 3, 23, 0)
	x, _, e := mark.Play(three, words, [][]api.Job{{{Kind: mark.Roots, C: 1}}}, nil, 100)
	if e != api.OK || trial.Number(x.Words[2]) != 2 {
		t.Fatal(e, x)
	}
	y, a := play(t, three, x.Words, [][]api.Job{{callOf(1)}}, nil, 100)
	if a[0][0] != told(1) || y.Words[12] != 15 || y.Words[16] != 3 || y.Words[20] != 3 {
		t.Error(y, a)
	}
	pulled, _, e := shade.Play(three, x.Words, [][]api.Job{{{Kind: shade.Next}}}, nil, 100)
	y, a = play(t, three, pulled.Words, [][]api.Job{{callOf(1)}}, nil, 100)
	if e != api.OK || a[0][0] != told(1) || y.Words[16] != 3 || y.Words[20] != 1 {
		t.Error(e, y, a)
	}
}

// kindsOfTasks: a job of each kind, with that colour.
func kindsOfTasks(colour int) []api.Job { return []api.Job{clearOf(colour), callOf(colour), due} }

// A task alone, by hands of any number, on memories by hand: shorter than the shape's, longer, and none at all.
func TestP22_1_TaskAlone(t *testing.T) {
	from := trial.Source(1)
	for _, hand := range append(trial.Ends(), 0, 1, 2, 7, 8, 9, 1<<32) {
		for range 100 {
			sh := from.SmallShape()
			long := append(anyWords(&from, sh), from.Words(sh)...)
			words := long[:from.Below(len(long)+1)]
			if from.Below(2) == 0 {
				words = long[:trial.HeadAt(sh, sh.Objects)+from.Below(3+sh.Slots)] // some of the last object's words are none
			}
			for _, colour := range []int{0, 1, from.End()} {
				for _, j := range kindsOfTasks(colour) {
					finals.HoldTask(t, sh, hand, j, words, 150)
					finals.HoldTask(t, sh, hand, j, nil, 150)
				}
			}
		}
	}
}

// The same with acts of others amid it, at the words that it looks at and at any others.
func TestP22_1_TaskAmidOthers(t *testing.T) {
	from := trial.Source(2)
	for range 15000 {
		sh := from.SmallShape()
		words := anyWords(&from, sh)
		objects, places := trial.ObjectsIn(sh, words), append(shown(sh), api.Queued)
		j := kindsOfTasks(from.Below(2))[from.Below(3)]
		finals.HoldTaskAmid(t, sh, 0, j, words, 120, func(i int) []api.Step {
			if i > 60 || from.Below(3) > 0 {
				return nil
			}
			number := 1 + from.Below(sh.Objects)
			at := []int{
				api.Grey, api.Queue, trial.HeadAt(sh, number), trial.LinkAt(sh, number), trial.NextAt(sh, number), places[from.Below(len(places))], from.Below(len(words)),
			}[from.Below(7)]
			put := []uint64{half, 1, 2, 8, 256, from.One(sh), from.Handle(objects)}[from.Below(7)]
			return []api.Step{{Act: []int{api.Add, api.Add, api.Store}[from.Below(3)], At: at, Put: put}}
		})
	}
}

// Jobs of several hands in every order of their steps.
func TestP22_1_EveryOrder(t *testing.T) {
	single := api.Shape{Objects: 1, Slots: 1, Hands: 1, Roots: 1, Weaks: 1} // the weak word is the word 10, the head is 11
	pair := api.Shape{Objects: 2, Slots: 1, Hands: 1, Roots: 1, Weaks: 1}   // the second head is 15
	white := puts(memory(single, cell{half + 5, 9}), 10, tagged(1, 1), 14, tagged(1, 1))
	waiting := puts(memory(single, cell{half + 15, 0}), 10, tagged(1, 1), 2, tagged(1, last), 14, tagged(1, 1))
	list := puts(memory(pair, cell{5, 9}, cell{0xd, 9}), 10, 2, 3, tagged(2, last), 14, 2, 17, tagged(0, 5), 18, 1)
	queue := puts(memory(pair, cell{half + 7, 9}, cell{0xf, 9}), 10, tagged(1, 1), 3, tagged(2, last), 17, 1, 13, 0, 14, 0, 18, 0)
	ring := puts(queue, 13, 2)
	for _, c := range []struct {
		name  string
		sh    api.Shape
		words []uint64
		hands [][]api.Job
		least int // spots
	}{
		{"two Clears, and one of the other colour", pair, list, [][]api.Job{{clearOf(1)}, {clearOf(1)}, {clearOf(0)}}, 50},
		{"a Clear beside a Call", single, white, [][]api.Job{{clearOf(1)}, {callOf(1)}}, 50},
		{"a Clear beside a Call that shades", pair, list, [][]api.Job{{clearOf(1)}, {callOf(1)}}, 50},
		{"two Calls", single, white, [][]api.Job{{callOf(1)}, {callOf(1)}}, 200},
		{"two Calls, and one waits", single, waiting, [][]api.Job{{callOf(1)}, {callOf(1)}}, 50},
		{"two Calls, and an object that is shown", pair, list, [][]api.Job{{callOf(1)}, {callOf(1)}}, 1000},
		{"two Calls of the other colours", pair, queue, [][]api.Job{{callOf(1)}, {callOf(0)}}, 200},
		{"a Call beside Dues", single, white, [][]api.Job{{callOf(1)}, {due, due}}, 50},
		{"a Call beside Dues, and a queue", pair, list, [][]api.Job{{callOf(1)}, {due, due}}, 200},
		{"Dues", pair, queue, [][]api.Job{{due, due}, {due}}, 100},
		{"Dues of three hands", pair, queue, [][]api.Job{{due}, {due}, {due}}, 500},
		{"Dues, and a ring", pair, ring, [][]api.Job{{due, due}, {due}}, 100},
	} {
		spots := everyOrder(t, c.sh, c.words, c.hands, func(schedule []int) {
			play(t, c.sh, c.words, c.hands, schedule, len(schedule))
		})
		if spots < c.least {
			t.Error(c.name, spots)
		}
	}
}

// All schedules of the first steps; behind them the hands take turns.
func TestP22_1_EverySchedule(t *testing.T) {
	words := puts(memory(three, cell{5, 9}, cell{7, 9}, cell{1, 0}), 10, 1, 11, 3, 3, tagged(3, last), 22, 0, 15, 3, 19, 1, 23, 2)
	for _, hands := range [][][]api.Job{
		{{clearOf(1), callOf(1)}, {callOf(1), due}},
		{{callOf(0), due}, {callOf(1), clearOf(0)}},
		{{due, due}, {callOf(1), due}},
	} {
		for schedule := range trial.Lists(2, 11) {
			play(t, three, words, hands, schedule, 200)
		}
	}
	for schedule := range trial.Lists(3, 7) {
		play(t, three, words, [][]api.Job{{clearOf(1)}, {callOf(1), due}, {due, due}}, schedule, 200)
	}
}
