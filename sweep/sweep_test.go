package sweep_test

import (
	"slices"
	"testing"

	"midden/api"
	"midden/cells"
	"midden/room"
	"midden/sweep"
	"midden/trial"
	"midden/turn"
)

// A path is what a job alone does, step by step, as a test writes it down; and what others do between its steps.
type path struct {
	sh    api.Shape
	hand  int
	words []uint64
	steps []api.Step
	amid  map[int]trial.Put
	given uint64
}

func (p *path) step(s api.Step) {
	p.steps = append(p.steps, s)
	p.words = with(p.words, s.At, s.Put)
}

func (p *path) load(at int)            { p.step(load(p.hand, at, p.words[at])) }
func (p *path) store(at int, v uint64) { p.step(trial.Store(p.hand, at, p.words[at], v)) }
func (p *path) cas(at int, v uint64)   { p.step(trial.CAS(p.hand, at, p.words[at], v)) }
func (p *path) lost(at int)            { p.step(trial.Lost(p.hand, at, p.words[at])) }
func (p *path) add(at int)             { p.step(trial.Add(p.hand, at, p.words[at], p.words[at]+1)) }

// other: what another hand puts there ahead of the next step.
func (p *path) other(at int, v uint64) {
	if p.amid == nil {
		p.amid = map[int]trial.Put{}
	}
	p.amid[len(p.steps)] = trial.Put{uint64(at), v}
	p.words = with(p.words, at, v)
}

// look: the one step of each object.
func (p *path) look(number int) { p.load(trial.HeadAt(p.sh, number)) }

// grow: the step of one that grows older.
func (p *path) grow(number int) {
	at := trial.HeadAt(p.sh, number)
	p.cas(at, p.words[at]+256)
}

// give: the steps of one that is given back.
func (p *path) give(number int) {
	p.wipe(number)
	if isLast := p.leave(number); !isLast {
		p.lay(number)
	}
	p.count()
}

func (p *path) wipe(number int) {
	for slot := range p.sh.Slots {
		p.store(trial.SlotAt(p.sh, number, slot), 0)
	}
}

func (p *path) leave(number int) (isLast bool) {
	p.look(number)
	gen := trial.Upper(headIn(p.sh, p.words, number))
	p.store(trial.HeadAt(p.sh, number), min(gen+1, last)*half)
	return gen == last
}

func (p *path) lay(number int) {
	free := p.words[api.Free]
	p.load(api.Free)
	p.store(trial.LinkAt(p.sh, number), free%half)
	p.cas(api.Free, trial.Turned(free, number))
}

func (p *path) count() {
	p.add(api.Freed)
	p.given++
}

// hold fails, if a Pass of this colour, by the path's hand alone, doesn't go so from these words on.
func (p *path) hold(t *testing.T, words []uint64, colour int) {
	t.Helper()
	hands, answers := make([][]api.Job, p.hand+1), make([][]api.Answer, p.hand+1)
	hands[p.hand], answers[p.hand] = []api.Job{pass(colour)}, []api.Answer{told(p.given)}
	sweeps.HoldSteps(t, p.sh, words, hands, nil, p.steps, answers, p.words)
	play(t, p.sh, words, hands, nil, api.MaxSteps)
}

func TestP21_1_Example(t *testing.T) {
	words := puts(make([]uint64, trial.SizeOf(bare)), 10, 1, 13, 3)
	steps := []api.Step{
		load(0, 10, 1),
		load(0, 10, 1), trial.Store(0, 10, 1, half), load(0, 1, 0), trial.Store(0, 11, 0, 0), trial.CAS(0, 1, 0, tagged(1, 1)), trial.Add(0, 5, 0, 1),
		load(0, 13, 3), trial.CAS(0, 13, 3, 0x103),
	}
	after := puts(words, 10, half, 1, tagged(1, 1), 5, 1, 13, 0x103)
	sweeps.HoldSteps(t, bare, words, [][]api.Job{{pass(1)}}, nil, steps, [][]api.Answer{{told(1)}}, after)
	play(t, bare, words, [][]api.Job{{pass(1)}}, nil, 100)
	if sweep.Pass != 1 {
		t.Error("the kind", sweep.Pass)
	}
}

// What becomes of an object.
const (
	stays = iota
	isGiven
	grows
)

// do: the steps behind the look at it.
func (p *path) do(number, what int) {
	switch what {
	case isGiven:
		p.give(number)
	case grows:
		p.grow(number)
	}
}

// heads: the lower halves of heads, and what becomes of one by a Pass of each colour.
func heads() []struct{ lower, zero, one int } {
	return []struct{ lower, zero, one int }{
		{0, stays, stays}, {2, stays, stays}, {0xc, stays, stays}, {0xfe, stays, stays}, {0xff02, stays, stays}, {0xfffffffe, stays, stays},
		{1, grows, isGiven}, {3, isGiven, grows}, {5, grows, isGiven}, {7, isGiven, grows}, {9, grows, isGiven}, {0xf, isGiven, grows},
		{0x101, grows, isGiven}, {0x7f03, isGiven, grows}, {0x8001, grows, isGiven}, {0xfd03, isGiven, grows},
		{0xfe01, grows, isGiven}, {0xfe0f, isGiven, grows}, {0xff01, stays, isGiven}, {0xff03, isGiven, stays}, {0xff0d, stays, isGiven},
		{0x10001, grows, isGiven}, {0x1ff01, stays, isGiven}, {0xffff00f1, grows, isGiven}, {0xfffffeff, isGiven, grows}, {0xffffffff, isGiven, stays},
		{0xfffffffd, stays, isGiven},
	}
}

// Each head of each object, in each colour, whatever Free shows; the other two are out of use.
func TestP21_1_EachHead(t *testing.T) {
	firsts := append(trial.FarNumbers(3), 0, 1, 2, 3) // its own number, too
	for i, c := range heads() {
		for number := 1; number <= 3; number++ {
			for k, gen := range []uint64{0, 1, 7, last - 1, last} {
				for colour, what := range []int{c.zero, c.one} {
					free := tagged(firsts[(i+k+number)%len(firsts)], trial.Tags()[(i+k)%len(trial.Tags())])
					words := memory(three, free, cell{4, 7}, cell{half, 8}, cell{last*half + 2, 9})
					words[trial.HeadAt(three, number)] = tagged(c.lower, gen)
					p := path{sh: three, hand: i % 8, words: words}
					for other := 1; other <= 3; other++ {
						if p.look(other); other == number {
							p.do(number, what)
						}
					}
					p.hold(t, words, colour)
				}
			}
		}
	}
}

// Each way in which three objects go, one behind the other.
func TestP21_1_EachThree(t *testing.T) {
	for whats := range trial.Lists(3, 3) {
		for colour := range uint64(2) {
			for _, free := range []uint64{tagged(0, last), tagged(2, 0), tagged(9, last-1)} {
				lower := []uint64{0xff00, 0xfe03 - 2*colour, 0xfe01 + 2*colour}
				words := memory(three, free, cell{lower[whats[0]] + 5*half, 7}, cell{lower[whats[1]] + 6*half, 8}, cell{lower[whats[2]], 9})
				p := path{sh: three, hand: 2, words: words}
				for i, what := range whats {
					p.look(i + 1)
					p.do(i+1, what)
				}
				p.hold(t, words, int(colour))
			}
		}
	}
}

// Each object of each shape has words of its own: each alone in use, and all together.
func TestP21_1_EachObject(t *testing.T) {
	for _, sh := range trial.RightShapes() {
		out := memory(sh, tagged(1, 4))
		for number := 1; number <= sh.Objects; number++ {
			out[trial.HeadAt(sh, number)] = 6 * half
		}
		for only := 0; only <= sh.Objects; only++ { // 0: all
			words := slices.Clone(out)
			for number := 1; number <= sh.Objects; number++ {
				switch isIn := only == 0 || only == number; {
				case isIn && number%3 == 1:
					words[trial.HeadAt(sh, number)] = tagged(0x203, uint64(number))
				case isIn:
					words[trial.HeadAt(sh, number)] = tagged(0x201, uint64(number))
				}
			}
			p := path{sh: sh, hand: 7, words: words}
			for number := 1; number <= sh.Objects; number++ {
				p.look(number)
				switch isIn := only == 0 || only == number; {
				case isIn && number%3 == 1:
					p.grow(number)
				case isIn:
					p.give(number)
				}
			}
			p.hold(t, words, 1)
		}
	}
}

// Each number of slots, from none to the most.
func TestP21_1_BySlots(t *testing.T) {
	for slots := range api.MaxSlots + 1 {
		sh := api.Shape{Objects: 2, Slots: slots, Hands: 2, Roots: 3, Weaks: 1}
		words := memory(sh, tagged(0, 1), cell{1, 7}, cell{1, 8})
		p := path{sh: sh, words: words}
		p.look(1)
		p.give(1)
		p.look(2)
		p.give(2)
		if len(p.steps) != 2*(1+slots+6) || p.given != 2 {
			t.Fatal(slots, p)
		}
		p.hold(t, words, 1)
	}
}

// An age grows up to 255, and no further; all other bits of the head stay as they are.
func TestP21_1_Ages(t *testing.T) {
	for _, lower := range []uint64{1, 0xffff00f1, 0x100fd, 3, 0xffff00ff} {
		for _, gen := range []uint64{0, last} {
			colour := colourOf(lower)
			words := memory(bare, 0, cell{lower + gen*half, 7}, cell{0, 8})
			passes := slices.Repeat([]api.Job{pass(colour)}, api.MaxJobs)
			for n := range api.MaxJobs + 1 {
				x, a := run(t, bare, words, [][]api.Job{passes[:n]}, nil)
				age, cas := uint64(min(n, 255)), min(n, 255)
				if !slices.Equal(x.Words, with(words, 10, words[10]+256*age)) || len(x.Steps) != 2*n+cas {
					t.Fatal(lower, gen, n, x.Words)
				}
				if n == api.MaxJobs && slices.ContainsFunc(a[0], func(x api.Answer) bool { return x != told(0) }) {
					t.Fatal(a)
				}
			}
		}
	}
}

// A generation at its end: given back, it goes on no list, and is counted all the same; one less goes on it once more.
func TestP21_1_LastGeneration(t *testing.T) {
	words := memory(bare, tagged(0, 6), cell{(last-1)*half + 0xff05, 7}, cell{last*half + 0xff0d, 8})
	p := path{sh: bare, words: words}
	p.load(10)
	p.load(10)
	p.store(10, last*half)
	p.lay(1)
	p.count()
	p.load(13)
	p.load(13)
	p.store(13, last*half)
	p.count()
	p.hold(t, words, 1)
	if p.words[1] != tagged(1, 7) || p.words[11] != 0 || p.words[14] != 8 || p.words[5] != 1007 {
		t.Error(p.words)
	}
}

// Of a colour the last bit counts.
func TestP21_1_Colours(t *testing.T) {
	for _, colour := range append(trial.Ends(), 0, 1, 2, 3, 4, 5, -3, -4, 1<<32, 1<<32+1, 255, 256) {
		words := memory(bare, 0, cell{4*half + 1, 7}, cell{7*half + 3, 8})
		p := path{sh: bare, hand: -7, words: words}
		isOdd := colour%2 != 0
		p.look(1)
		if isOdd {
			p.give(1)
		} else {
			p.grow(1)
		}
		p.look(2)
		if isOdd {
			p.grow(2)
		} else {
			p.give(2)
		}
		steps, a, after := trial.Drive(t, sweep.All(bare, -7, colour), words, nil)
		if !slices.Equal(steps, p.steps) || a != told(1) || !slices.Equal(after, p.words) {
			t.Error(colour, steps, a)
		}
	}
}

// A shape that is none: nothing is promised of it but that a task is made, and goes on.
func TestP21_1_NoShape(t *testing.T) {
	words := memory(three, 0, cell{1, 0}, cell{3, 0}, cell{1, 0})
	for i, sh := range trial.WrongShapes() {
		k := sweep.All(sh, i%11-2, i)
		m, _ := cells.New(words)
		for range 20 {
			if s, state := k.Step(m); s.Hand != i%11-2 || state == turn.Ended {
				break
			}
		}
	}
}

// amidOthers: of three objects 1 has the colour, 2 is white, and 3 is out of use. What others do, and what comes of it, do tells;
// where it does nothing for an object, that one goes its way.
func amidOthers(t *testing.T, name string, do ...func(p *path)) {
	t.Helper()
	const hand = 4
	words := memory(three, tagged(3, 8), cell{3, 7}, cell{5*half + 1, 8}, cell{0, 9})
	ways := []func(p *path){
		func(p *path) { p.look(1); p.grow(1) },
		func(p *path) { p.look(2); p.give(2) },
		func(p *path) { p.look(3) },
	}
	p := path{sh: three, hand: hand, words: words}
	for i, way := range ways {
		if i < len(do) && do[i] != nil {
			way = do[i]
		}
		way(&p)
	}
	steps, a, after := trial.Drive(t, sweep.All(three, hand, 1), words, p.amid)
	if !slices.Equal(steps, p.steps) || a != told(p.given) || !slices.Equal(after, p.words) {
		t.Errorf("%s: %v %v; want %v", name, steps, a, p)
	}
}

// A head that is another one by the CAS stays as it is, and is neither looked at again nor given back.
func TestP21_1_HeadIsAnotherByTheCAS(t *testing.T) {
	amidOthers(t, "nothing")
	for _, head := range []uint64{7, 0x103, 0xff03, 1, 0, 2, half + 3, last*half + 3, 1<<64 - 1} {
		amidOthers(t, "another head", func(p *path) {
			p.look(1)
			p.other(10, head)
			p.lost(10)
		})
	}
	amidOthers(t, "the same head", func(p *path) {
		p.look(1)
		p.other(10, 3)
		p.grow(1)
	})
}

// What others do ahead of a look is seen; what they do behind it isn't.
func TestP21_1_AmidTheLooks(t *testing.T) {
	amidOthers(t, "1 is as old as can be", func(p *path) {
		p.other(10, 0xff03)
		p.look(1)
	})
	amidOthers(t, "1 is white behind it", nil, func(p *path) {
		p.other(10, 1)
		p.look(2)
		p.give(2)
	})
	amidOthers(t, "2 has been shaded", nil, func(p *path) {
		p.other(15, 5*half+3)
		p.look(2)
		p.grow(2)
	})
	amidOthers(t, "2 is out of use", nil, func(p *path) {
		p.other(15, 6*half)
		p.look(2)
	})
	amidOthers(t, "3 has been made", nil, nil, func(p *path) {
		p.other(20, 3)
		p.look(3)
		p.grow(3)
	})
	amidOthers(t, "3 has been made white", nil, nil, func(p *path) {
		p.other(20, last*half+0xff0d)
		p.look(3)
		p.give(3)
	})
}

// What was white at the look is given back, whatever others do to it by then.
func TestP21_1_GivenAmidOthers(t *testing.T) {
	for _, head := range []uint64{5*half + 3, 6 * half, 9*half + 0xff01, last * half, last*half + 1, (last-1)*half + 3, 0} {
		amidOthers(t, "another head behind the look", nil, func(p *path) {
			p.look(2)
			p.other(15, head)
			p.give(2)
		})
	}
	amidOthers(t, "another head behind room's load", nil, func(p *path) {
		p.look(2)
		p.wipe(2)
		p.look(2)
		p.other(15, last*half+1)
		p.store(15, 6*half)
		p.lay(2)
		p.count()
	})
	amidOthers(t, "a slot is stored into", nil, func(p *path) {
		p.look(2)
		p.wipe(2)
		p.other(18, 77)
		p.leave(2)
		p.lay(2)
		p.count()
	})
	amidOthers(t, "an object is taken off the list", nil, func(p *path) {
		p.look(2)
		p.wipe(2)
		p.leave(2)
		p.load(1)
		p.store(16, 3)
		p.other(1, tagged(0, 9))
		p.lost(1)
		p.lay(2)
		p.count()
	})
	amidOthers(t, "the list goes on ahead of the load", nil, func(p *path) {
		p.look(2)
		p.other(1, tagged(1, last))
		p.give(2)
	})
	amidOthers(t, "others count too", nil, func(p *path) {
		p.look(2)
		p.other(5, 1<<64-1)
		p.give(2)
	})
}

// Two hands at one object that has the colour: one CAS is done, the other isn't, and isn't tried again.
func TestP21_1_TwoAtOneHead(t *testing.T) {
	words := memory(bare, 0, cell{3, 7}, cell{0, 8})
	hands := [][]api.Job{{pass(1)}, {pass(1)}}
	sweeps.HoldSteps(t, bare, words, hands, []int{0, 1, 1, 0}, []api.Step{
		load(0, 10, 3), load(1, 10, 3), trial.CAS(1, 10, 3, 0x103), trial.Lost(0, 10, 0x103), load(1, 13, 0), load(0, 13, 0),
	}, [][]api.Answer{{told(0)}, {told(0)}}, with(words, 10, 0x103))
	sweeps.HoldSteps(t, bare, words, hands, []int{0, 0, 1, 1}, []api.Step{
		load(0, 10, 3), trial.CAS(0, 10, 3, 0x103), load(1, 10, 0x103), trial.CAS(1, 10, 0x103, 0x203), load(0, 13, 0), load(1, 13, 0),
	}, [][]api.Answer{{told(0)}, {told(0)}}, with(words, 10, 0x203))
}

// Two hands that both find an object white both give it back: the table asks nothing of that, and the list leads round and round.
func TestP21_1_TwoGiveOneBack(t *testing.T) {
	words := memory(bare, tagged(0, last), cell{1, 7}, cell{0, 8})
	sweeps.HoldSteps(t, bare, words, [][]api.Job{{pass(1)}, {pass(1)}}, []int{0, 1, 0, 0, 0, 0, 0, 0, 0}, []api.Step{
		load(0, 10, 1), load(1, 10, 1),
		load(0, 10, 1), trial.Store(0, 10, 1, half), load(0, 1, tagged(0, last)), trial.Store(0, 11, 7, 0), trial.CAS(0, 1, tagged(0, last), 1), trial.Add(0, 5, 1005, 1006),
		load(0, 13, 0), // and hand 0 has ended
		load(1, 10, half), trial.Store(1, 10, half, 2*half), load(1, 1, 1), trial.Store(1, 11, 0, 1), trial.CAS(1, 1, 1, tagged(1, 1)), trial.Add(1, 5, 1006, 1007),
		load(1, 13, 0),
	}, [][]api.Answer{{told(1)}, {told(1)}}, puts(words, 1, tagged(1, 1), 5, 1007, 10, 2*half, 11, 1))
}

// Two hands that give two objects back, and meet at Free.
func TestP21_1_TwoMeetAtFree(t *testing.T) {
	words := memory(bare, 0, cell{1, 7}, cell{3, 8})
	sweeps.HoldSteps(t, bare, words, [][]api.Job{{pass(1)}, {pass(0)}}, []int{0, 0, 0, 0, 1, 1, 1, 1, 1, 1, 1, 1, 0, 0, 1}, []api.Step{
		load(0, 10, 1), load(0, 10, 1), trial.Store(0, 10, 1, half), load(0, 1, 0),
		load(1, 10, half), load(1, 13, 3), load(1, 13, 3), trial.Store(1, 13, 3, half), load(1, 1, 0), trial.Store(1, 14, 8, 0), trial.CAS(1, 1, 0, tagged(2, 1)), trial.Add(1, 5, 1005, 1006),
		trial.Store(0, 11, 7, 0), trial.Lost(0, 1, tagged(2, 1)),
		load(0, 1, tagged(2, 1)), trial.Store(0, 11, 0, 2), trial.CAS(0, 1, tagged(2, 1), tagged(1, 2)), trial.Add(0, 5, 1006, 1007), load(0, 13, half),
	}, [][]api.Answer{{told(1)}, {told(1)}}, puts(words, 1, tagged(1, 2), 5, 1007, 10, half, 11, 2, 13, half, 14, 0))
}

// What was given back is made again by the layer below, the highest number first; and what that layer has made is given back.
func TestP21_1_WithTheLayerBelow(t *testing.T) {
	words := memory(three, tagged(2, 3), cell{5*half + 0xff01, 7}, cell{2 * half, 0}, cell{1, 9})
	x, a := play(t, three, words, [][]api.Job{{pass(1)}}, nil, 100)
	if a[0][0] != told(2) {
		t.Error(a)
	}
	alloc := api.Job{Kind: room.Alloc}
	y, a, e := room.Play(three, x.Words, [][]api.Job{{alloc, alloc, alloc, alloc}}, nil, 100)
	if e != api.OK || !slices.Equal(a[0], []api.Answer{told(tagged(3, 1)), told(tagged(1, 6)), told(tagged(2, 2)), {}}) {
		t.Error(a, e)
	}
	z, a := play(t, three, y.Words, [][]api.Job{{pass(0), pass(1), pass(1)}}, nil, 100)
	if list, _ := trial.ListIn(three, z.Words, api.Free); !slices.Equal(a[0], []api.Answer{told(0), told(3), told(0)}) || !slices.Equal(list, []int{3, 2, 1}) {
		t.Error(a, z, list)
	}
}

// A task alone, by hands of any number, on memories by hand: shorter than the shape's, longer, and none at all.
func TestP21_1_TaskAlone(t *testing.T) {
	from := trial.Source(1)
	for _, hand := range append(trial.Ends(), 0, 1, 2, 7, 8, 9, 1<<32) {
		for range 100 {
			sh := from.SmallShape()
			long := append(anyWords(&from, sh), from.Words(sh)...)
			words := long[:from.Below(len(long)+1)]
			if from.Below(2) == 0 {
				words = long[:trial.HeadAt(sh, sh.Objects)+from.Below(4+sh.Slots)] // some of the last object's words are none
			}
			for _, colour := range []int{0, 1, from.End()} {
				sweeps.HoldTask(t, sh, hand, pass(colour), words, 150)
				sweeps.HoldTask(t, sh, hand, pass(colour), nil, 150)
			}
		}
	}
}

// The same with acts of others amid it, at the words that it looks at and at any others.
func TestP21_1_TaskAmidOthers(t *testing.T) {
	from := trial.Source(2)
	for range 20000 {
		sh := from.SmallShape()
		words := anyWords(&from, sh)
		sweeps.HoldTaskAmid(t, sh, from.End(), pass(from.Below(2)), words, 120, func(i int) []api.Step {
			if i > 60 || from.Below(3) > 0 {
				return nil
			}
			number := 1 + from.Below(sh.Objects)
			at := []int{
				api.Free, api.Freed, trial.HeadAt(sh, number), trial.HeadAt(sh, number), trial.LinkAt(sh, number), from.Below(len(words)),
			}[from.Below(6)]
			put := []uint64{half, 1, 2, 256, last * half, from.Head(), from.One(sh)}[from.Below(7)]
			return []api.Step{{Act: []int{api.Add, api.Add, api.Store}[from.Below(3)], At: at, Put: put}}
		})
	}
}

// Jobs of several hands in every order of their steps, from words whose list is one and from words whose isn't.
func TestP21_1_EveryOrder(t *testing.T) {
	for _, hands := range [][][]api.Job{
		{{pass(1)}, {pass(1)}},
		{{pass(1)}, {pass(0)}},
		{{pass(0), pass(1)}, {pass(1)}},
	} {
		for _, words := range [][]uint64{
			memory(bare, 0, cell{1, 7}, cell{3, 8}),
			memory(bare, tagged(2, last), cell{0xff03, 9}, cell{1, 0}),
			memory(bare, tagged(1, 5), cell{last*half + 1, 1}, cell{0xfe03 + half, 9}), // 1 shows itself
		} {
			spots := everyOrder(t, bare, words, hands, func(schedule []int) {
				play(t, bare, words, hands, schedule, len(schedule))
			})
			if spots < 30 {
				t.Error(hands, spots)
			}
		}
	}
}

// All schedules of the first steps; behind them the hands take turns.
func TestP21_1_EverySchedule(t *testing.T) {
	words := memory(three, tagged(2, last-1), cell{1, 9}, cell{0, 0}, cell{3, 9})
	for _, hands := range [][][]api.Job{
		{{pass(1), pass(1)}, {pass(1)}},
		{{pass(0), pass(1)}, {pass(1), pass(0)}},
	} {
		for schedule := range trial.Lists(2, 11) {
			play(t, three, words, hands, schedule, 200)
		}
	}
	for schedule := range trial.Lists(3, 7) {
		play(t, three, words, [][]api.Job{{pass(1)}, {pass(0), pass(1)}, {pass(1)}}, schedule, 200)
	}
}
