package mark_test

import (
	"math"
	"slices"
	"testing"

	"midden/api"
	"midden/cells"
	"midden/mark"
	"midden/shade"
	"midden/trial"
	"midden/turn"
)

// holdOne fails, if a job of this hand alone doesn't give just these steps, this number and these words.
func holdOne(t *testing.T, sh api.Shape, hand int, j api.Job, words []uint64, steps []api.Step, val uint64, after []uint64) {
	t.Helper()
	hands := make([][]api.Job, hand+1)
	answers := make([][]api.Answer, hand+1)
	hands[hand], answers[hand] = []api.Job{j}, []api.Answer{told(val)}
	marks.HoldSteps(t, sh, words, hands, nil, steps, answers, after)
	play(t, sh, words, hands, nil, 1000)
}

// A path is what a job alone does, step by step, as a test writes it down.
type path struct {
	sh     api.Shape
	hand   int
	colour int
	words  []uint64
	steps  []api.Step
	marks  uint64 // those that were OK
}

func (p *path) load(at int) { p.steps = append(p.steps, load(p.hand, at, p.words[at])) }

// mark: the steps of a Mark of that handle.
func (p *path) mark(h uint64) {
	steps, after := trial.Shading(p.sh, p.words, p.hand, h, p.colour)
	if p.steps, p.words = append(p.steps, steps...), after; len(steps) == 5 {
		p.marks++
	}
}

// pull: the steps of a Pull of that object, the first one of the list; and its link shows below.
func (p *path) pull(number, below int) {
	p.load(api.Grey)
	p.load(trial.LinkAt(p.sh, number))
	grey := p.words[api.Grey]
	turned := trial.Turned(grey, below)
	p.steps = append(p.steps, trial.CAS(p.hand, api.Grey, grey, turned))
	p.words = with(p.words, api.Grey, turned)
}

func TestP20_1_Examples(t *testing.T) {
	sh := api.Shape{Objects: 3, Slots: 1, Hands: 1, Roots: 2} // the roots are the words 9 and 10, the heads 11, 15 and 19
	words := puts(make([]uint64, trial.SizeOf(sh)), 10, 1, 11, 1, 15, 1, 19, 1, 14, 2, 18, 1)
	shaded := puts(words, 11, 3, 2, tagged(1, 1))
	holdOne(t, sh, 0, roots(1), words, []api.Step{
		load(0, 9, 0), load(0, 10, 1),
		load(0, 11, 1), trial.CAS(0, 11, 1, 3), load(0, 2, 0), trial.Store(0, 12, 0, 0), trial.CAS(0, 2, 0, tagged(1, 1)),
		load(0, 3, 0),
	}, 1, shaded)
	rested := puts(shaded, 15, 3, 2, tagged(0, 4))
	holdOne(t, sh, 0, drain(1), shaded, []api.Step{
		load(0, 2, tagged(1, 1)), load(0, 12, 0), trial.CAS(0, 2, tagged(1, 1), tagged(0, 2)), load(0, 14, 2),
		load(0, 15, 1), trial.CAS(0, 15, 1, 3), load(0, 2, tagged(0, 2)), trial.Store(0, 16, 0, 0), trial.CAS(0, 2, tagged(0, 2), tagged(2, 3)),
		load(0, 2, tagged(2, 3)), load(0, 16, 0), trial.CAS(0, 2, tagged(2, 3), tagged(0, 4)), load(0, 18, 1), load(0, 11, 3),
		load(0, 2, tagged(0, 4)),
	}, 2, rested)
	queued := with(words, 3, 3)
	holdOne(t, sh, 0, roots(1), queued, []api.Step{
		load(0, 9, 0), load(0, 10, 1),
		load(0, 11, 1), trial.CAS(0, 11, 1, 3), load(0, 2, 0), trial.Store(0, 12, 0, 0), trial.CAS(0, 2, 0, tagged(1, 1)),
		load(0, 3, 3), load(0, 19, 1),
		load(0, 19, 1), trial.CAS(0, 19, 1, 3), load(0, 2, tagged(1, 1)), trial.Store(0, 20, 0, 1), trial.CAS(0, 2, tagged(1, 1), tagged(3, 2)),
		load(0, 21, 0),
	}, 2, puts(queued, 11, 3, 19, 3, 20, 1, 2, tagged(3, 2)))
	if mark.Roots != 1 || mark.Drain != 2 {
		t.Error("the kinds", mark.Roots, mark.Drain)
	}
}

// handles: what a root or a slot may hold of these objects; none, a white object's, one's that has the colour, one's of another
// generation or out of use, one's that isn't there, or a generation alone.
func handles() []uint64 {
	return []uint64{
		0, tagged(1, 4), tagged(2, 9), tagged(1, 3), tagged(1, 5), tagged(2, half-1), tagged(3, 0), tagged(4, 0), tagged(0, 4), tagged(half/2, 0), math.MaxUint64,
	}
}

func someObjects(grey uint64) []uint64 {
	return memory(grey, cell{4*half + 1, 7}, cell{9*half + 0xffff00ff, 8}, cell{2, 0})
}

// Each root in its turn, whatever two of them hold; of each hand, in each colour.
func TestP20_1_EachRoot(t *testing.T) {
	ways := map[int]int{}
	for _, h := range handles() {
		for _, other := range handles() {
			for i := range 8 {
				at, second := 10+i/2, 9*half+0xffff00fd+uint64(i%2*2) // object 2 is of the other colour, or of this one
				words := puts(someObjects(tagged(3, half-1)), 19, second, 10, 0, 11, 0, 12, 0, 13, 0, uint64(at), h, uint64(10+(at-9)%4), other)
				p := path{sh: three, hand: at % 7, colour: at % 2, words: words}
				for root := 10; root <= 13; root++ {
					p.load(root)
					if held := words[root]; held%half >= 1 && held%half <= 3 {
						p.mark(held)
					}
				}
				p.load(api.Queue)
				holdOne(t, three, p.hand, roots(p.colour), words, p.steps, p.marks, p.words)
				ways[len(p.steps)]++
			}
		}
	}
	for _, n := range []int{5, 6, 7, 10, 11, 15} {
		if ways[n] == 0 {
			t.Error("no way of so many steps:", n, ways)
		}
	}
}

// Each root of each shape is a word of its own, and all of them are looked at in order.
func TestP20_1_EachPlace(t *testing.T) {
	for _, sh := range trial.RightShapes() {
		bare := trial.Memory(sh, api.Grey, tagged(0, 4))
		for hand := range sh.Hands {
			for root := range sh.Roots {
				number := 1 + (hand*sh.Roots+root)%sh.Objects
				words := puts(bare, uint64(trial.RootAt(sh, hand, root)), tagged(number, 6), uint64(trial.HeadAt(sh, number)), 6*half+3)
				p := path{sh: sh, hand: 7, words: words}
				for at := 8 + sh.Hands; at < 8+sh.Hands+sh.Hands*sh.Roots; at++ {
					if p.load(at); at == trial.RootAt(sh, hand, root) {
						p.mark(tagged(number, 6))
					}
				}
				p.load(api.Queue)
				holdOne(t, sh, 7, roots(0), words, p.steps, 1, p.words)
			}
		}
	}
}

// The queue in each order of each of its objects, whatever stands in the upper halves; it ends where a next word shows no object.
func TestP20_1_EachQueue(t *testing.T) {
	bare := puts(someObjects(tagged(0, half-2)), 24, tagged(0xffffff05, 3))
	for _, queue := range [][]int{nil, {1}, {2}, {3}, {1, 2}, {2, 1}, {1, 3}, {3, 1}, {2, 3}, {3, 2}, {1, 2, 3}, {3, 2, 1}, {2, 3, 1}} {
		for _, end := range append(trial.FarNumbers(3), 0) {
			for _, upper := range trial.Tags() {
				words := slices.Clone(bare)
				at := api.Queue
				for _, number := range queue {
					words[at] = tagged(number, upper)
					at = trial.NextAt(three, number)
				}
				words[at] = tagged(end, upper)
				p := path{sh: three, hand: 3, colour: int(upper % 2), words: words}
				for root := 10; root <= 13; root++ {
					p.load(root)
				}
				p.load(api.Queue)
				for _, number := range queue {
					p.load(trial.HeadAt(three, number))
					p.mark(tagged(number, trial.Upper(words[trial.HeadAt(three, number)])))
					p.load(trial.NextAt(three, number))
				}
				holdOne(t, three, 3, roots(p.colour), words, p.steps, p.marks, p.words)
			}
		}
	}
}

// A queue that leads back to one of its objects is left behind as many objects as the shape has; each of them is shaded once.
func TestP20_1_RingsInTheQueue(t *testing.T) {
	for _, sh := range []api.Shape{three, {Objects: 1, Hands: 1, Roots: 1}, {Objects: 64, Slots: 1, Hands: 1, Roots: 1}} {
		for first := 1; first <= min(sh.Objects, 5); first++ {
			for back := 1; back <= min(sh.Objects, 5); back++ {
				words := trial.Memory(sh, api.Queue, tagged(first, 9))
				for number := 1; number <= sh.Objects; number++ {
					next := number + 1
					if number == 5 || number == sh.Objects {
						next = back
					}
					words[trial.HeadAt(sh, number)], words[trial.NextAt(sh, number)] = tagged(1, 8), tagged(next, 7)
				}
				p := path{sh: sh, colour: 1, words: words}
				for hand := range sh.Hands {
					for root := range sh.Roots {
						p.load(trial.RootAt(sh, hand, root))
					}
				}
				p.load(api.Queue)
				for number, n := first, 0; n < sh.Objects; n++ {
					p.load(trial.HeadAt(sh, number))
					p.mark(tagged(number, 8))
					p.load(trial.NextAt(sh, number))
					number = trial.Number(words[trial.NextAt(sh, number)])
				}
				if p.marks > uint64(min(sh.Objects, 5)) {
					t.Fatal(p.marks)
				}
				holdOne(t, sh, 0, roots(1), words, p.steps, p.marks, p.words)
			}
		}
	}
}

// What a root shows and the queue holds too, is shaded once.
func TestP20_1_RootsAndQueue(t *testing.T) {
	words := puts(memory(0, cell{1, 7}, cell{half + 1, 8}, cell{1, 9}), 10, tagged(2, 1), 13, tagged(2, 1), 3, tagged(2, 5), 21, 3)
	p := path{sh: three, colour: 1, words: words}
	p.load(10)
	p.mark(tagged(2, 1))
	p.load(11)
	p.load(12)
	p.load(13)
	p.mark(tagged(2, 1))
	p.load(api.Queue)
	p.load(19)
	p.mark(tagged(2, 1))
	p.load(21)
	p.load(24)
	p.mark(3)
	p.load(26)
	if p.marks != 2 || len(p.steps) != 21 {
		t.Fatal(p)
	}
	holdOne(t, three, 0, roots(1), words, p.steps, 2, p.words)
}

// Both slots of an object that is pulled, whatever they hold; and then what they put on the list.
func TestP20_1_EachSlot(t *testing.T) {
	sh := three
	ways := map[int]int{}
	for _, h := range handles() {
		for _, other := range handles() {
			for colour := range 2 {
				words := puts(someObjects(tagged(3, half-1)), 25, 5*half, 27, h, 28, other, 17, 0, 18, 0, 22, 4, 23, 9*half)
				p := path{sh: sh, hand: 5, colour: colour, words: words}
				p.pull(3, 0)
				var list []int
				for at := 27; at <= 28; at++ {
					p.load(at)
					if held := words[at]; held%half >= 1 && held%half <= 3 {
						before := p.marks
						if p.mark(held); p.marks > before {
							list = append([]int{trial.Number(held)}, list...)
						}
					}
				}
				for i, number := range append(list, 0)[:len(list)] {
					p.pull(number, append(list, 0)[i+1])
					p.load(trial.SlotAt(sh, number, 0))
					p.load(trial.SlotAt(sh, number, 1))
				}
				p.load(api.Grey)
				holdOne(t, sh, 5, drain(colour), words, p.steps, uint64(1+len(list)), p.words)
				ways[len(p.steps)]++
			}
		}
	}
	for _, n := range []int{6, 7, 8, 16, 17} {
		if ways[n] == 0 {
			t.Error("no way of so many steps:", n, ways)
		}
	}
}

// The list in each order, without slots and with some: objects are pulled as they stand there, whatever they are.
func TestP20_1_EachList(t *testing.T) {
	for slots := range api.MaxSlots + 1 {
		sh := api.Shape{Objects: 4, Slots: slots, Hands: 1, Roots: 1}
		for _, list := range [][]int{nil, {1}, {4}, {2, 1}, {1, 3, 2}, {4, 3, 2, 1}, {3, 1, 4, 2}} {
			for _, upper := range trial.Tags() {
				words := trial.Lay(sh, trial.Memory(sh, api.Grey, tagged(0, upper)), api.Grey, list)
				p := path{sh: sh, hand: 1, words: words}
				for i, number := range list {
					p.pull(number, append(list, 0)[i+1])
					for slot := range slots {
						p.load(trial.SlotAt(sh, number, slot))
					}
				}
				p.load(api.Grey)
				holdOne(t, sh, 1, drain(int(upper%2)), words, p.steps, uint64(len(list)), p.words)
			}
		}
	}
}

// The list ends where Grey shows no object, whatever it shows instead.
func TestP20_1_NothingWaits(t *testing.T) {
	for _, number := range append(trial.FarNumbers(3), 0) {
		for _, upper := range trial.Tags() {
			words := someObjects(tagged(number, upper))
			holdOne(t, three, 2, drain(0), words, []api.Step{load(2, 2, tagged(number, upper))}, 0, words)
			// A link that shows none.
			words = puts(someObjects(tagged(2, upper)), 20, tagged(number, 5), 22, 0, 23, 0)
			turned := tagged(number, (upper+1)%half)
			holdOne(t, three, 2, drain(1), words, []api.Step{
				load(2, 2, tagged(2, upper)), load(2, 20, tagged(number, 5)), trial.CAS(2, 2, tagged(2, upper), turned),
				load(2, 22, 0), load(2, 23, 0), load(2, 2, turned),
			}, 1, with(words, 2, turned))
		}
	}
}

// A list that leads round and round has no end: the run stops behind most steps, and tells nothing.
func TestP20_1_RingsInTheList(t *testing.T) {
	words := puts(memory(tagged(1, half-5), cell{3, 2}, cell{3, 1}, cell{3, 0}), 17, 0, 18, 0, 22, 3, 23, 0)
	for most := range 150 {
		x, a := play(t, three, words, [][]api.Job{{drain(1), roots(0)}}, nil, most)
		if x.Ended || len(x.Steps) != most || len(a[0]) > 0 {
			t.Fatal(most, x, a)
		}
	}
	x, a, e := mark.Play(three, words, [][]api.Job{{drain(1)}}, nil, api.MaxSteps)
	if e != api.OK || x.Ended || len(x.Steps) != api.MaxSteps || len(a[0]) > 0 {
		t.Error(e, x.Ended, len(x.Steps), a)
	}
}

// Of a colour the last bit counts.
func TestP20_1_Colours(t *testing.T) {
	for _, colour := range append(trial.Ends(), 0, 1, 2, 3, 4, 5, -3, -4, 1<<32, 1<<32+1, 255, 256) {
		for own := range uint64(2) {
			words := puts(memory(tagged(3, 0), cell{2*own + 1, 0}, cell{2*own + 1, 0}, cell{3, 0}), 10, 1, 3, 2, 27, 1, 28, 0)
			steps, want, head := 4+1+1+3, uint64(0), 2*own+1
			if isOdd := colour%2 != 0; isOdd != (own == 1) {
				steps, want, head = 4+5+1+7, 2, 3-2*own
			}
			made, a, after := trial.Drive(t, mark.Scan(three, -7, colour), words, nil)
			if len(made) != steps || a != told(want) || after[14] != head || after[19] != head {
				t.Error("Scan", colour, own, made, a)
			}
			_, a, after = trial.Drive(t, mark.Rest(three, -7, colour), words, nil)
			if a != told(1+want/2) || after[14] != head || after[19] != 2*own+1 {
				t.Error("Rest", colour, own, a)
			}
		}
	}
}

// A shape that is none: nothing is promised of it but that tasks are made, and go on.
func TestP20_1_NoShape(t *testing.T) {
	words := puts(memory(tagged(1, 0), cell{1, 1}, cell{1, 0}, cell{1, 0}), 10, 1)
	for i, sh := range trial.WrongShapes() {
		for _, k := range []turn.Task{mark.Scan(sh, i%11-2, i), mark.Rest(sh, i%11-2, i)} {
			m, _ := cells.New(words)
			for range 20 {
				if s, state := k.Step(m); s.Hand != i%11-2 || state == turn.Ended {
					break
				}
			}
		}
	}
}

// What others do between the steps of a Scan.
func TestP20_1_ScanAmidOthers(t *testing.T) {
	const hand = 4
	words := puts(memory(0, cell{1, 7}, cell{1, 8}, cell{1, 9}), 10, 0, 11, 0, 12, 0, 13, 0, 3, tagged(1, 6), 16, 2, 21, 0)
	four := []api.Step{load(hand, 10, 0), load(hand, 11, 0), load(hand, 12, 0), load(hand, 13, 0)}
	for _, c := range []struct {
		name  string
		amid  map[int]trial.Put
		steps []api.Step // behind those of the roots
		marks uint64
	}{
		{"the queue is taken", map[int]trial.Put{4: {3, tagged(0, 7)}}, []api.Step{load(hand, 3, tagged(0, 7))}, 0},
		{"its first object is taken by then", map[int]trial.Put{5: {3, tagged(2, 7)}, 6: {14, 9}, 7: {16, 0}}, []api.Step{
			load(hand, 3, tagged(1, 6)), load(hand, 14, 1),
			load(hand, 14, 9), trial.CAS(hand, 14, 9, 11), load(hand, 2, 0), trial.Store(hand, 15, 7, 0), trial.CAS(hand, 2, 0, tagged(1, 1)), load(hand, 16, 0),
		}, 1},
		{"an object is of another generation by then", map[int]trial.Put{6: {14, half + 1}, 7: {16, tagged(0, 3)}}, []api.Step{
			load(hand, 3, tagged(1, 6)), load(hand, 14, 1), load(hand, 14, half+1), load(hand, 16, tagged(0, 3)),
		}, 0},
		{"it is of another one ahead of both loads", map[int]trial.Put{5: {14, half + 3}, 7: {16, 5}}, []api.Step{
			load(hand, 3, tagged(1, 6)), load(hand, 14, half+3), load(hand, 14, half+3), load(hand, 16, 5),
		}, 0},
		{"another one turns its colour first", map[int]trial.Put{7: {14, 3}, 9: {16, 0}}, []api.Step{
			load(hand, 3, tagged(1, 6)), load(hand, 14, 1), load(hand, 14, 1), trial.Lost(hand, 14, 3), load(hand, 14, 3), load(hand, 16, 0),
		}, 0},
		{"another one makes it older", map[int]trial.Put{7: {14, 257}, 12: {2, tagged(3, 1)}, 13: {16, 0}}, []api.Step{
			load(hand, 3, tagged(1, 6)), load(hand, 14, 1), load(hand, 14, 1), trial.Lost(hand, 14, 257), load(hand, 14, 257), trial.CAS(hand, 14, 257, 259),
			load(hand, 2, 0), trial.Store(hand, 15, 7, 0), trial.Lost(hand, 2, tagged(3, 1)),
			load(hand, 2, tagged(3, 1)), trial.Store(hand, 15, 0, 3), trial.CAS(hand, 2, tagged(3, 1), tagged(1, 2)), load(hand, 16, 0),
		}, 1},
	} {
		steps, a, _ := trial.Drive(t, mark.Scan(three, hand, 1), words, c.amid)
		if !slices.Equal(steps, slices.Concat(four, c.steps)) || a != told(c.marks) {
			t.Errorf("%s: %v %v; want %v", c.name, steps, a, c.steps)
		}
	}
	// A root that is stored into behind its load is not looked at again; one that comes later is.
	steps, a, after := trial.Drive(t, mark.Scan(three, hand, 1), with(words, 3, 0), map[int]trial.Put{1: {10, 1}, 2: {13, 3}})
	if len(steps) != 4+5+1 || a != told(1) || after[14] != 1 || after[24] != 3 {
		t.Error(steps, a)
	}
	// A root's handle is the one that was loaded, whatever stands there by then.
	steps, a, after = trial.Drive(t, mark.Scan(three, hand, 1), puts(words, 3, 0, 10, 2), map[int]trial.Put{1: {10, 1}})
	if len(steps) != 4+5+1 || a != told(1) || after[14] != 1 || after[19] != 3 {
		t.Error(steps, a)
	}
}

// What others do between the steps of a Rest.
func TestP20_1_RestAmidOthers(t *testing.T) {
	const hand = 6
	words := puts(memory(tagged(1, 0), cell{3, 0}, cell{1, 8}, cell{1, 9}), 17, 0, 18, 0, 22, 0, 23, 0, 27, 0, 28, 0)
	pull := []api.Step{load(hand, 2, tagged(1, 0)), load(hand, 15, 0), trial.CAS(hand, 2, tagged(1, 0), tagged(0, 1))}
	for _, c := range []struct {
		name  string
		amid  map[int]trial.Put
		steps []api.Step
		val   uint64
	}{
		{"nothing", nil, append(pull[:3:3], load(hand, 17, 0), load(hand, 18, 0), load(hand, 2, tagged(0, 1))), 1},
		{"another one pulls it first", map[int]trial.Put{2: {2, tagged(0, 1)}}, append(pull[:2:2], trial.Lost(hand, 2, tagged(0, 1)), load(hand, 2, tagged(0, 1))), 0},
		{"one is put ahead of it", map[int]trial.Put{2: {2, tagged(3, 1)}, 4: {25, 0}}, append(pull[:2:2],
			trial.Lost(hand, 2, tagged(3, 1)), load(hand, 2, tagged(3, 1)), load(hand, 25, 0), trial.CAS(hand, 2, tagged(3, 1), tagged(0, 2)),
			load(hand, 27, 0), load(hand, 28, 0), load(hand, 2, tagged(0, 2))), 1},
		{"one is put there behind the last slot", map[int]trial.Put{5: {2, tagged(2, 2)}, 6: {20, 0}}, append(pull[:3:3], load(hand, 17, 0), load(hand, 18, 0),
			load(hand, 2, tagged(2, 2)), load(hand, 20, 0), trial.CAS(hand, 2, tagged(2, 2), tagged(0, 3)),
			load(hand, 22, 0), load(hand, 23, 0), load(hand, 2, tagged(0, 3))), 2},
		{"a slot is stored into ahead of its load", map[int]trial.Put{4: {18, 2}, 5: {18, 3}, 6: {19, 3}}, append(pull[:3:3], load(hand, 17, 0), load(hand, 18, 2),
			load(hand, 19, 1), trial.Lost(hand, 19, 3), load(hand, 19, 3), load(hand, 2, tagged(0, 1))), 1},
	} {
		steps, a, _ := trial.Drive(t, mark.Rest(three, hand, 1), words, c.amid)
		if !slices.Equal(steps, c.steps) || a != told(c.val) {
			t.Errorf("%s: %v %v; want %v", c.name, steps, a, c.steps)
		}
	}
}

// Two hands at one list: each pulls what the other one has put there.
func TestP20_1_TwoAtOneList(t *testing.T) {
	words := puts(memory(tagged(1, 0), cell{3, 0}, cell{1, 8}, cell{1, 9}), 17, 2, 18, 3, 22, 0, 23, 0, 27, 0, 28, 1)
	hands := [][]api.Job{{drain(1)}, {drain(1)}}
	steps := []api.Step{
		load(0, 2, tagged(1, 0)), load(1, 2, tagged(1, 0)), load(0, 15, 0), load(1, 15, 0), trial.CAS(0, 2, tagged(1, 0), tagged(0, 1)), trial.Lost(1, 2, tagged(0, 1)),
		load(0, 17, 2), load(0, 19, 1), trial.CAS(0, 19, 1, 3), load(0, 2, tagged(0, 1)), trial.Store(0, 20, 8, 0), trial.CAS(0, 2, tagged(0, 1), tagged(2, 2)),
		load(1, 2, tagged(2, 2)), load(1, 20, 0), trial.CAS(1, 2, tagged(2, 2), tagged(0, 3)),
		load(0, 18, 3), load(1, 22, 0), load(0, 24, 1), load(1, 23, 0), trial.CAS(0, 24, 1, 3), load(1, 2, tagged(0, 3)), // and hand 1 has ended
		load(0, 2, tagged(0, 3)), trial.Store(0, 25, 9, 0), trial.CAS(0, 2, tagged(0, 3), tagged(3, 4)),
		load(0, 2, tagged(3, 4)), load(0, 25, 0), trial.CAS(0, 2, tagged(3, 4), tagged(0, 5)), load(0, 27, 0), load(0, 28, 1), load(0, 14, 3), load(0, 2, tagged(0, 5)),
	}
	schedule := []int{0, 1, 0, 1, 0, 1, 0, 0, 0, 0, 0, 0, 1, 1, 1, 0, 1, 0, 1, 0, 1}
	marks.HoldSteps(t, three, words, hands, schedule, steps, [][]api.Answer{{told(2)}, {told(1)}}, puts(words, 19, 3, 20, 0, 24, 3, 25, 0, 2, tagged(0, 5)))
}

// What was put on the list is pulled off it by the layer below; and what that layer has shaded, is looked at.
func TestP20_1_WithTheLayerBelow(t *testing.T) {
	words := puts(memory(0, cell{1, 7}, cell{1, 8}, cell{1, 9}), 10, 2, 3, 3, 17, 3, 18, 0)
	x, a := play(t, three, words, [][]api.Job{{roots(1)}}, nil, 100)
	if a[0][0] != told(2) {
		t.Error(a)
	}
	next, by := api.Job{Kind: shade.Next}, api.Job{Kind: shade.Shade, H: 1, C: 1}
	y, a, e := shade.Play(three, x.Words, [][]api.Job{{next, by}}, nil, 100)
	if e != api.OK || !slices.Equal(a[0], []api.Answer{told(3), told(1)}) {
		t.Error(a, e)
	}
	z, a := play(t, three, y.Words, [][]api.Job{{drain(1), drain(1)}}, nil, 100)
	if !slices.Equal(a[0], []api.Answer{told(2), told(0)}) || z.Words[14] != 3 || z.Words[19] != 3 || z.Words[24] != 3 {
		t.Error(a, z)
	}
}

// A task alone, by hands of any number, on memories by hand: shorter than the shape's, longer, and none at all.
func TestP20_1_TaskAlone(t *testing.T) {
	from := trial.Source(1)
	for _, hand := range append(trial.Ends(), 0, 1, 2, 7, 8, 9, 1<<32) {
		for range 100 {
			sh := from.SmallShape()
			long := append(anyWords(&from, sh), from.Words(sh)...)
			words := long[:from.Below(len(long)+1)]
			if from.Below(2) == 0 {
				words = long[:trial.HeadAt(sh, sh.Objects)+from.Below(3+sh.Slots)] // some of the last object's words are none
			}
			for kind := mark.Roots; kind <= mark.Drain; kind++ {
				for _, colour := range []int{0, 1, from.End()} {
					marks.HoldTask(t, sh, hand, api.Job{Kind: kind, C: colour}, words, 150)
					marks.HoldTask(t, sh, hand, api.Job{Kind: kind, C: colour}, nil, 150)
				}
			}
		}
	}
}

// The same with acts of others amid it, at the words that it looks at and at any others.
func TestP20_1_TaskAmidOthers(t *testing.T) {
	from := trial.Source(2)
	for range 15000 {
		sh := from.SmallShape()
		words := anyWords(&from, sh)
		objects, places := objectsIn(sh, words), shown(sh)
		j := api.Job{Kind: mark.Roots + from.Below(2), C: from.Below(2)}
		marks.HoldTaskAmid(t, sh, 0, j, words, 120, func(i int) []api.Step {
			if i > 60 || from.Below(3) > 0 {
				return nil
			}
			number := 1 + from.Below(sh.Objects)
			at := []int{
				api.Grey, api.Queue, trial.HeadAt(sh, number), trial.LinkAt(sh, number), trial.NextAt(sh, number), places[from.Below(len(places))], from.Below(len(words)),
			}[from.Below(7)]
			put := []uint64{half, 1, 2, 256, from.One(sh), from.Handle(objects)}[from.Below(6)]
			return []api.Step{{Act: []int{api.Add, api.Add, api.Store}[from.Below(3)], At: at, Put: put}}
		})
	}
}

// Jobs of several hands in every order of their steps, from words whose lists are lists and from words whose aren't.
func TestP20_1_EveryOrder(t *testing.T) {
	sh := api.Shape{Objects: 2, Slots: 1, Hands: 1, Roots: 1} // the root is the word 9, the heads are 10 and 14
	for _, hands := range [][][]api.Job{
		{{roots(1)}, {roots(1)}},
		{{roots(1)}, {roots(0)}},
		{{roots(1)}, {drain(1)}},
		{{drain(1)}, {drain(1)}},
	} {
		for _, words := range [][]uint64{
			puts(trial.Memory(sh, api.Grey, 0, cell{1, 0}, cell{1, 0}), 9, 1, 3, 2, 13, 2, 17, 1),
			puts(trial.Memory(sh, api.Grey, tagged(2, half-1), cell{1, 9}, cell{3, 0}), 9, 2, 3, 0, 13, 2, 17, 1),
			puts(trial.Memory(sh, api.Queue, tagged(1, 5), cell{1, 9}, cell{half + 1, 2}), 9, 2, 2, 9, 12, 2, 16, 1, 13, 2, 17, 0), // a ring in the queue
		} {
			everyOrder(t, sh, words, hands, func(schedule []int) {
				play(t, sh, words, hands, schedule, len(schedule))
			})
		}
	}
}

// All schedules of the first steps; behind them the hands take turns.
func TestP20_1_EverySchedule(t *testing.T) {
	words := puts(memory(tagged(3, half-2), cell{1, 9}, cell{1, 9}, cell{3, 0}), 10, 1, 12, 2, 3, 2, 17, 2, 18, 3, 22, 1, 23, 0, 27, 2, 28, 0)
	for _, hands := range [][][]api.Job{
		{{roots(1), drain(1)}, {drain(1), roots(1)}},
		{{drain(1), drain(0)}, {roots(0), drain(1)}},
	} {
		for schedule := range trial.Lists(2, 11) {
			play(t, three, words, hands, schedule, 200)
		}
	}
	for schedule := range trial.Lists(3, 7) {
		play(t, three, words, [][]api.Job{{roots(1)}, {drain(1), drain(1)}, {drain(1)}}, schedule, 200)
	}
}
