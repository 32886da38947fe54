package mutator_test

import (
	"fmt"
	"slices"
	"testing"

	"midden/api"
	"midden/cells"
	"midden/mutator"
	"midden/trial"
	"midden/turn"
)

// The chapter's examples, step by step.
func TestP23_1_Examples(t *testing.T) {
	hold := func(jobs []api.Job, steps []api.Step, want []api.Answer, pairs ...uint64) {
		t.Helper()
		after := puts(fresh(small), pairs...)
		mutators.HoldSteps(t, small, fresh(small), [][]api.Job{jobs}, nil, steps, [][]api.Answer{want}, after)
		play(t, small, fresh(small), [][]api.Job{jobs}, nil, 100)
	}
	ahead := []api.Step{load(0, 0, 0), store(0, 8, 0, 0)}
	first := []api.Step{
		load(0, 1, 1), load(0, 13, 2), trial.CAS(0, 1, 1, tagged(2, 1)), load(0, 12, 0), store(0, 12, 0, 1), trial.Add(0, 4, 0, 1), store(0, 9, 0, 1),
	}
	hold([]api.Job{poll, poll}, append(slices.Clone(ahead), load(0, 0, 0)), []api.Answer{told(0), told(0)})
	hold([]api.Job{newOf(0), putOf(0, 0, 0), getOf(0, 0, 1), dropOf(0)}, slices.Concat(ahead, first, []api.Step{
		load(0, 0, 0), load(0, 9, 1), load(0, 12, 1), load(0, 9, 1), store(0, 15, 0, 1),
		load(0, 0, 0), load(0, 9, 1), load(0, 12, 1), load(0, 15, 1), store(0, 10, 0, 1),
		load(0, 0, 0), store(0, 9, 1, 0),
	}), []api.Answer{told(1), told(1), told(1), told(0)}, 1, tagged(2, 1), 4, 1, 10, 1, 12, 1, 15, 1)
	hold([]api.Job{getOf(0, 0, 1)}, append(slices.Clone(ahead), load(0, 9, 0)), []api.Answer{none})
	hold([]api.Job{newOf(0), newOf(1), newOf(0)}, slices.Concat(ahead, first, []api.Step{
		load(0, 0, 0), load(0, 1, tagged(2, 1)), load(0, 17, 0), trial.CAS(0, 1, tagged(2, 1), tagged(0, 2)), load(0, 16, 0), store(0, 16, 0, 1), trial.Add(0, 4, 1, 2), store(0, 10, 0, 2),
		load(0, 0, 0), load(0, 1, tagged(0, 2)),
	}), []api.Answer{told(1), told(2), none}, 1, tagged(0, 2), 4, 2, 9, 1, 10, 2, 12, 1, 16, 1)
	for _, c := range []struct {
		hand int
		j    api.Job
		want api.Errno
	}{{0, newOf(2), api.ErrArg}, {0, seeOf(0, 2), api.ErrArg}, {0, api.Job{Kind: 10}, api.ErrKind}, {1, poll, api.ErrArg}} {
		if k, e := mutator.Task(small, c.hand, c.j, nil); k != nil || e != c.want {
			t.Error(c, k, e)
		}
	}
}

// Those examples of the whole that have no collector. The object's head is the word 12 of this shape, and object 2's the word 16.
func TestP23_1_ExamplesOfTheWhole(t *testing.T) {
	sh := api.Shape{Objects: 3, Slots: 1, Hands: 1, Roots: 2, Weaks: 1}
	x, a := play(t, sh, fresh(sh), [][]api.Job{{newOf(0)}}, nil, 100)
	if list, _ := trial.ListIn(sh, x.Words, api.Free); a[0][0] != told(1) || x.Words[9] != 1 || x.Words[12] != 1 || !slices.Equal(list, []int{2, 3}) {
		t.Error(x, a)
	}
	x, a = play(t, sh, with(fresh(sh), 9, 9), [][]api.Job{{getOf(0, 0, 1), putOf(0, 0, 0), copyOf(0, 1)}}, nil, 100)
	if !slices.Equal(a[0], []api.Answer{none, none, told(9)}) || x.Words[10] != 9 {
		t.Error(x, a)
	}
	x, a = play(t, sh, fresh(sh), [][]api.Job{{newOf(0), newOf(1), putOf(0, 0, 1), dropOf(1)}}, nil, 100)
	if v := trial.LookAt(t, sh, x.Words); v.Objects[0].Slots[0] != 2 || !slices.Equal(v.Roots[0], []uint64{1, 0}) || v.Counts[0] != 2 {
		t.Error(x, a)
	}
	x, a = play(t, sh, fresh(sh), [][]api.Job{{newOf(0), showOf(0, 0), dropOf(0), seeOf(0, 1)}}, nil, 100)
	if !slices.Equal(a[0], []api.Answer{told(1), told(1), told(0), told(1)}) || x.Words[10] != 1 || x.Words[11] != 1 {
		t.Error(x, a)
	}
	x, _ = play(t, sh, fresh(sh), [][]api.Job{{newOf(0), finalOf(1)}}, nil, 100)
	if x.Words[12] != 1 || x.Words[16] != 5 {
		t.Error(x)
	}
}

// moments: phase words of all phases, of what is none, of both colours, and with bits that aren't looked at.
func moments() []uint64 {
	out := trial.Values()
	for phase := range 8 {
		for colour := range 2 {
			out = append(out, momentOf(phase, colour, 0), momentOf(phase, colour, 7)+0xf0)
		}
	}
	return append(out, never-1, never-8, never-15, tagged(0x123, 0xffffff))
}

// The beginning, by a hand that has told any phase word last, or nothing; whatever stands in its ack. What it has told is written with
// the step that tells, and not ahead of it.
func TestP23_1_Beginning(t *testing.T) {
	for i, moment := range moments() {
		for k, before := range moments() {
			hand := (i + k) % 2
			ack := trial.AckAt(duo, hand)
			for _, stood := range []uint64{0, moment, before, never} {
				words := puts(fresh(duo), api.Phase, moment, uint64(ack), stood)
				is := before
				task, e := mutator.Task(duo, hand, poll, &is)
				m, _ := cells.New(words)
				s, how := task.Step(m)
				isKnown := moment == before && before != never
				if e != api.OK || s != load(hand, 0, moment) || (how == turn.Ended) != isKnown || is != before {
					t.Fatal(moment, before, s, how, is, e)
				}
				if !isKnown {
					if s, how = task.Step(m); s != store(hand, ack, stood, moment) || how != turn.Ended || is != moment {
						t.Fatal(moment, before, s, how, is)
					}
					words[ack] = moment
				}
				if task.Answer() != told(moment) || !slices.Equal(m.Words(), words) {
					t.Fatal(moment, before, task.Answer(), m.Words())
				}
			}
		}
	}
}

// What a hand has told is the hand's own, is kept from job to job, and begins anew with each run. The phase word 2^64 - 1 is told again
// and again.
func TestP23_1_LastFromJobToJob(t *testing.T) {
	for _, moment := range moments() {
		words := with(fresh(duo), api.Phase, moment)
		for range 2 {
			x, a := play(t, duo, words, [][]api.Job{{poll, poll, poll}, {poll, poll}}, nil, 100)
			stores := 2
			if moment == never {
				stores = 5
			}
			if len(x.Steps) != 5+stores || !slices.Equal(slices.Concat(a...), slices.Repeat([]api.Answer{told(moment)}, 5)) {
				t.Fatal(moment, x.Steps, a)
			}
			words = x.Words // the acks are told already; but not in the next run
			if words[8] != moment || words[9] != moment {
				t.Fatal(moment, words)
			}
		}
		// Without a last each job has one of its own.
		for range 2 {
			k, _ := mutator.Task(duo, 1, poll, nil)
			if steps, a, _ := trial.Drive(t, k, words, nil); len(steps) != 2 || a != told(moment) {
				t.Fatal(moment, steps, a)
			}
		}
	}
}

// A hand tells a phase word when it has changed, and not again: by jobs of one list, which were all made ahead of the first step.
func TestP23_1_PhaseTurnsBetweenJobs(t *testing.T) {
	arm := api.Job{Kind: another, A: api.Phase, H: momentOf(api.Arm, 1, 1)}
	mark := api.Job{Kind: another, A: api.Phase, H: momentOf(api.Mark, 1, 2)}
	hands := [][]api.Job{{poll, poll, poll, poll, {Kind: bye}}, {poll}, {arm, mark, arm}}
	amid.HoldSteps(t, duo, fresh(duo), hands, []int{0, 0, 2, 0, 0, 2, 0, 2, 0, 0, 1, 0, 0}, []api.Step{
		load(0, 0, 0), store(0, 8, 0, 0), store(2, 0, 0, arm.H), load(0, 0, arm.H), store(0, 8, 0, arm.H),
		store(2, 0, arm.H, mark.H), load(0, 0, mark.H), store(2, 0, mark.H, arm.H), store(0, 8, arm.H, mark.H),
		load(0, 0, arm.H), load(1, 0, arm.H), store(0, 8, mark.H, arm.H), store(0, 8, arm.H, never), store(1, 9, 0, arm.H),
	}, [][]api.Answer{{told(0), told(arm.H), told(mark.H), told(arm.H), told(0)}, {told(arm.H)}, {told(0), told(0), told(0)}}, puts(fresh(duo), 0, arm.H, 8, never, 9, arm.H))
}

// whites: objects 1 and 2 are in use and white in that colour, object 3 is free; hand 1's roots show 1 and 2, 1 shows 2, the weak word
// shows 2, and the queue is 1.
func whites(moment uint64) []uint64 {
	lower := int(3 - moment/8%2*2)
	words := make([]uint64, trial.SizeOf(duo))
	for at := range words {
		words[at] = uint64(1000 + at)
	}
	one, two := tagged(1, 4), tagged(2, last)
	return puts(words, 0, moment, 1, tagged(3, last), 2, tagged(0, last-1), 3, tagged(1, 9), 12, one, 13, two, 14, two,
		15, tagged(lower, 4), 18, two, 19, tagged(0xff0c+lower, last), 22, one, 23, tagged(0xfe, 7), 24, 0, 26, 0)
}

// Each job in each phase, by a hand that has told nothing, another phase, or this one.
func TestP23_1_EachPhase(t *testing.T) {
	one, two, three := tagged(1, 4), tagged(2, last), tagged(3, 7)
	for i, moment := range moments() {
		lower := int(1 + moment/8%2*2)
		isClose, isBarred := moment%8 == api.Close, moment%8 > api.Idle && moment%8 < api.Sweep
		for _, before := range []uint64{never, moment, moment ^ 8, moment ^ 256} {
			hold := func(j api.Job, want api.Answer, do func(p *path)) {
				t.Helper()
				p := path{t: t, sh: duo, hand: 1, last: before, words: whites(moment)}
				if before == moment && before != never {
					p.known()
				} else {
					p.begin()
				}
				do(&p)
				p.hold(whites(moment), before, j, want)
			}
			hold(newOf(0), told(three), func(p *path) { p.intoRoot(0, p.make(lower)) })
			hold(finalOf(1), told(three), func(p *path) { p.intoRoot(1, p.make(lower+4)) })
			hold(getOf(0, 0, 0), told(two), func(p *path) {
				p.load(trial.SlotAt(duo, p.object(0), 0))
				p.intoRoot(0, two)
			})
			hold(putOf(1, 0, 0), told(one), func(p *path) {
				number := p.object(1)
				p.into(trial.SlotAt(duo, number, 0), p.root(0))
			})
			hold(putOf(0, 0, 0), told(one), func(p *path) {
				number := p.object(0)
				p.into(trial.SlotAt(duo, number, 0), p.root(0))
			})
			hold(putOf(0, 0, -1), told(0), func(p *path) { p.into(trial.SlotAt(duo, p.object(0), 0), 0) })
			hold(copyOf(1, 0), told(two), func(p *path) { p.intoRoot(0, p.root(1)) })
			hold(copyOf(1, 1), told(two), func(p *path) { p.intoRoot(1, p.root(1)) })
			hold(dropOf(0), told(0), func(p *path) { p.intoRoot(0, 0) })
			hold(showOf(0, 0), told(one), func(p *path) {
				p.root(0)
				p.store(14, one)
			})
			if !isClose {
				hold(seeOf(0, 0), told(two), func(p *path) {
					p.load(14)
					if isBarred {
						p.shade(two)
					}
					p.intoRoot(0, two)
				})
			}
			hold(takeOf(1), told(one), func(p *path) { p.intoRoot(1, p.take()) })
			hold(api.Job{Kind: api.Poll, A: i, B: -i, C: i, H: moment}, told(moment), func(*path) {})
		}
	}
}

// The barrier, written down whole: in Mark, with the colour 1.
func TestP23_1_Barrier(t *testing.T) {
	moment := momentOf(api.Mark, 1, 7)
	words := puts(fresh(small), 0, moment, 9, 1, 10, 2, 12, 1, 15, 2, 16, 1)
	ahead := []api.Step{load(0, 0, moment), store(0, 8, 0, moment)}
	hold := func(j api.Job, want api.Answer, steps []api.Step, pairs ...uint64) {
		t.Helper()
		mutators.HoldSteps(t, small, words, [][]api.Job{{j}}, nil, slices.Concat(ahead, steps), [][]api.Answer{{want}}, puts(with(words, 8, moment), pairs...))
	}
	hold(putOf(0, 0, -1), told(0), []api.Step{
		load(0, 9, 1), load(0, 12, 1), load(0, 15, 2),
		load(0, 16, 1), trial.CAS(0, 16, 1, 3), load(0, 2, 0), store(0, 17, 0, 0), trial.CAS(0, 2, 0, tagged(2, 1)),
		store(0, 15, 2, 0),
	}, 2, tagged(2, 1), 15, 0, 16, 3)
	hold(copyOf(0, 1), told(1), []api.Step{
		load(0, 9, 1), load(0, 10, 2),
		load(0, 16, 1), trial.CAS(0, 16, 1, 3), load(0, 2, 0), store(0, 17, 0, 0), trial.CAS(0, 2, 0, tagged(2, 1)),
		load(0, 12, 1), trial.CAS(0, 12, 1, 3), load(0, 2, tagged(2, 1)), store(0, 13, 2, 2), trial.CAS(0, 2, tagged(2, 1), tagged(1, 2)),
		store(0, 10, 2, 1),
	}, 2, tagged(1, 2), 10, 1, 12, 3, 13, 2, 16, 3)
	hold(dropOf(0), told(0), []api.Step{
		load(0, 9, 1), load(0, 12, 1), trial.CAS(0, 12, 1, 3), load(0, 2, 0), store(0, 13, 2, 0), trial.CAS(0, 2, 0, tagged(1, 1)), store(0, 9, 1, 0),
	}, 2, tagged(1, 1), 9, 0, 12, 3, 13, 0)
	hold(seeOf(0, 0), none, []api.Step{load(0, 11, 0)})
	hold(showOf(1, 0), told(2), []api.Step{load(0, 10, 2), store(0, 11, 0, 2)}, 11, 2)
}

// A shows is what a root may hold of the objects of someObjects, and whether that is the handle of one that is there.
type shows struct {
	h       uint64
	isKnown bool // the number is an object's
	isThere bool
}

func someObjects() []uint64 {
	words := make([]uint64, trial.SizeOf(duo))
	for at := range words {
		words[at] = uint64(1000 + at)
	}
	return puts(words, 0, momentOf(api.Sweep, 1, 3), 15, tagged(1, 4), 18, 77, 19, tagged(0xfffffffd, last), 22, 88, 23, tagged(0xfe, 6), 26, 99)
}

func eachShown() []shows {
	out := []shows{
		{0, false, false}, {tagged(0, 4), false, false}, {never, false, false}, {tagged(4, 4), false, false},
		{tagged(1, 4), true, true}, {tagged(2, last), true, true},
		{1, true, false}, {tagged(1, 3), true, false}, {tagged(1, 5), true, false}, {2, true, false}, {tagged(2, last-1), true, false},
		{tagged(3, 6), true, false}, {3, true, false}, // out of use
	}
	for _, number := range trial.FarNumbers(3) {
		out = append(out, shows{tagged(number, 4), false, false})
	}
	return out
}

// The object in a root is there, or isn't; and what is handed on is whatever stands in the other root.
func TestP23_1_EachRootsObject(t *testing.T) {
	for _, c := range eachShown() {
		for _, other := range append(trial.Values(), tagged(1, 4)) {
			words := puts(someObjects(), 10, c.h, 11, other)
			number := trial.Number(c.h)
			hold := func(j api.Job, want api.Answer, do func(p *path)) {
				t.Helper()
				p := path{t: t, sh: duo, words: words}
				p.begin()
				if p.root(0); c.isKnown {
					p.look(number)
				}
				if !c.isThere {
					want = none
				} else {
					do(&p)
				}
				p.hold(words, never, j, want)
			}
			slot := trial.SlotAt(duo, number, 0)
			shown := uint64(0)
			if c.isThere {
				shown = words[slot]
			}
			hold(getOf(0, 0, 1), told(shown), func(p *path) {
				p.load(slot)
				p.intoRoot(1, shown)
			})
			hold(putOf(0, 0, 1), told(other), func(p *path) { p.into(slot, p.root(1)) })
			hold(putOf(0, 0, 0), told(c.h), func(p *path) { p.into(slot, p.root(0)) })
			hold(putOf(0, 0, -1), told(0), func(p *path) { p.into(slot, 0) })
			for _, j := range []api.Job{copyOf(0, 1), showOf(0, 0)} { // these hand on whatever stands there
				p := path{t: t, sh: duo, words: words}
				p.begin()
				p.root(0)
				p.store(map[int]int{api.Copy: 11, api.MakeWeak: 14}[j.Kind], c.h)
				p.hold(words, never, j, told(c.h))
			}
		}
	}
}

// New by each head of the object that is free, and each free list: what it told goes into the root, and where there is none the root
// stays as it is.
func TestP23_1_EachNew(t *testing.T) {
	for _, phase := range []int{api.Idle, api.Mark, api.Sweep} {
		for colour := range 2 {
			for final := range 2 {
				for _, head := range []uint64{0, tagged(0xfffffffe, last), tagged(0xffffffff, 5), tagged(6, last-1)} {
					for _, tag := range trial.Tags() {
						for number := 1; number <= 3; number++ {
							words := puts(whites(momentOf(phase, colour, 0)), 1, tagged(number, tag))
							words[trial.HeadAt(duo, number)] = head
							p := path{t: t, sh: duo, hand: 1, words: words}
							p.begin()
							h := p.make(1 + 2*colour + 4*final)
							p.intoRoot(1, h)
							p.hold(words, never, api.Job{Kind: api.New, A: 1, B: final}, told(h))
						}
						for _, number := range append(trial.FarNumbers(3), 0) {
							words := with(whites(momentOf(phase, colour, 0)), 1, tagged(number, tag))
							p := path{t: t, sh: duo, hand: 1, words: words}
							p.begin()
							p.load(api.Free)
							p.hold(words, never, api.Job{Kind: api.New, A: 1, B: final}, none)
						}
					}
				}
			}
		}
	}
}

// GetWeak by what the weak word shows, in each phase; one that shows nothing leaves the root as it is, in Close too.
func TestP23_1_EachGetWeak(t *testing.T) {
	for phase := range 8 {
		for colour := range 2 {
			moment := momentOf(phase, colour, 1)
			isBarred := phase > api.Idle && phase < api.Sweep
			for _, h := range []uint64{0, tagged(1, 4), tagged(2, last), tagged(1, 5), tagged(3, 7), 4, tagged(0, 1), never} {
				words := with(whites(moment), 14, h)
				words[15] ^= 2 // object 1 has the colour
				if isWhite := h == tagged(2, last); isWhite && phase == api.Close {
					continue // it goes on for ever
				}
				p := path{t: t, sh: duo, words: words}
				p.begin()
				p.load(14)
				if h == 0 {
					p.hold(words, never, seeOf(0, 1), none)
					continue
				}
				switch {
				case phase == api.Close:
					p.load(trial.HeadAt(duo, trial.Number(h)))
					p.load(14)
				case isBarred:
					p.shade(h)
				}
				p.intoRoot(1, h)
				p.hold(words, never, seeOf(0, 1), told(h))
			}
		}
	}
}

// In Close a GetWeak of what is white begins again and again, from the phase word on; it tells a phase only if that has changed.
func TestP23_1_GetWeakAgain(t *testing.T) {
	moment, sweep := momentOf(api.Close, 1, 3), momentOf(api.Sweep, 1, 4)
	one, two := tagged(1, 4), tagged(2, last)
	words := whites(moment)
	hold := func(name string, want api.Answer, do func(p *path)) {
		t.Helper()
		p := path{t: t, sh: duo, words: words}
		p.begin()
		do(&p)
		p.hold(words, never, seeOf(0, 1), want)
	}
	again := func(p *path) {
		p.load(14)
		p.look(2)
		p.known()
	}
	hold("the phase turns", told(two), func(p *path) {
		for range 9 {
			again(p)
		}
		p.load(14)
		p.look(2)
		p.other(0, sweep)
		p.begin()
		p.load(14)
		p.intoRoot(1, two)
	})
	hold("the phase turns behind its load", told(two), func(p *path) {
		p.load(14)
		p.look(2)
		p.known()
		p.other(0, sweep)
		p.load(14)
		p.look(2)
		p.begin()
		p.load(14)
		p.intoRoot(1, two)
	})
	hold("the phase turns twice", told(two), func(p *path) {
		p.load(14)
		p.look(2)
		p.other(0, sweep)
		p.beginAmid(func() { p.other(0, moment) })
		p.load(14)
		p.intoRoot(1, two)
	})
	hold("back to Mark", told(two), func(p *path) {
		p.load(14)
		p.look(2)
		p.other(0, momentOf(api.Mark, 1, 4))
		p.begin()
		p.load(14)
		p.shade(two)
		p.intoRoot(1, two)
	})
	hold("to a Mark of the other colour", told(two), func(p *path) {
		p.load(14)
		p.look(2)
		p.other(0, momentOf(api.Mark, 0, 4))
		p.begin()
		p.load(14)
		p.shade(two)
		p.intoRoot(1, two)
	})
	hold("the weak word is wiped", none, func(p *path) {
		again(p)
		p.other(14, 0)
		p.load(14)
	})
	hold("it is wiped between the looks, and the object is shaded", none, func(p *path) {
		p.load(14)
		p.other(19, tagged(3, last))
		p.look(2)
		p.other(14, 0)
		p.load(14)
		p.known()
		p.load(14)
	})
	hold("it shows another one by the second look", told(one), func(p *path) {
		p.load(14)
		p.other(19, tagged(3, last))
		p.look(2)
		p.other(14, one)
		p.load(14)
		p.known()
		p.load(14)
		p.other(15, tagged(3, 4))
		p.look(1)
		p.load(14)
		p.intoRoot(1, one)
	})
	hold("the object is shaded", told(two), func(p *path) {
		again(p)
		again(p)
		p.load(14)
		p.other(19, tagged(3, last))
		p.look(2)
		p.load(14)
		p.intoRoot(1, two)
	})
	for most := range 120 {
		x, a := play(t, duo, words, [][]api.Job{{seeOf(0, 1), poll}}, nil, most)
		if x.Ended || len(a[0]) > 0 || len(x.Steps) != most {
			t.Fatal(most, x, a)
		}
	}
	// Where the phase word is 2^64 - 1 but for the phase, it is no Close; where it is Close and all else is set, it is known behind its store.
	all := with(whites(never-4), 14, two)
	x, _ := play(t, duo, all, [][]api.Job{{seeOf(0, 1)}}, nil, 50)
	if n := len(slices.DeleteFunc(x.Steps, func(s api.Step) bool { return s.At != 8 })); x.Ended || n != 1 {
		t.Error(n, x)
	}
}

// Take by each queue; one that is empty leaves the root as it is.
func TestP23_1_EachTake(t *testing.T) {
	for _, phase := range []int{api.Idle, api.Arm, api.Close, api.Sweep} {
		for colour := range 2 {
			for _, tag := range trial.Tags() {
				for number := 1; number <= 3; number++ {
					words := with(whites(momentOf(phase, colour, 2)), 3, tagged(number, tag))
					p := path{t: t, sh: duo, hand: 1, words: words}
					p.begin()
					h := p.take()
					p.intoRoot(0, h)
					p.hold(words, never, takeOf(0), told(h))
					if next := trial.NextAt(duo, number); p.words[next] != words[next] || h != tagged(number, trial.Upper(words[trial.HeadAt(duo, number)])) {
						t.Error(h, p.words)
					}
				}
				for _, number := range append(trial.FarNumbers(3), 0) {
					words := with(whites(momentOf(phase, colour, 2)), 3, tagged(number, tag))
					p := path{t: t, sh: duo, hand: 1, words: words}
					p.begin()
					p.load(api.Queue)
					p.hold(words, never, takeOf(0), none)
				}
			}
		}
	}
}

// Each word of each shape: each hand's acks and roots, each object's slots, each weak word.
func TestP23_1_EachPlace(t *testing.T) {
	for _, sh := range trial.RightShapes() {
		words := make([]uint64, trial.SizeOf(sh))
		for at := range words {
			words[at] = uint64(5000 + at)
		}
		words[api.Phase] = momentOf(api.Idle, 0, 5)
		for number := 1; number <= sh.Objects; number++ {
			words[trial.HeadAt(sh, number)] = tagged(1, uint64(number))
		}
		for hand := range sh.Hands {
			for a := range sh.Roots {
				c, number := (a+hand+1)%sh.Roots, 1+(a*7+hand)%sh.Objects
				own := uint64(trial.RootAt(sh, hand, a))
				of := puts(words, own, tagged(number, uint64(number)))
				hold := func(j api.Job, want uint64, do func(p *path)) {
					t.Helper()
					p := path{t: t, sh: sh, hand: hand, words: of}
					p.begin()
					do(&p)
					p.hold(of, never, j, told(want))
				}
				for slot := range sh.Slots {
					at := trial.SlotAt(sh, number, slot)
					hold(getOf(a, slot, c), of[at], func(p *path) {
						p.object(a)
						p.intoRoot(c, p.load(at))
					})
					hold(putOf(a, slot, c), of[trial.RootAt(sh, hand, c)], func(p *path) {
						p.object(a)
						p.into(at, p.root(c))
					})
				}
				for weak := range sh.Weaks {
					hold(showOf(a, weak), of[own], func(p *path) { p.store(trial.WeakAt(sh, weak), p.root(a)) })
					hold(seeOf(weak, a), of[trial.WeakAt(sh, weak)], func(p *path) { p.intoRoot(a, p.load(trial.WeakAt(sh, weak))) })
				}
				hold(copyOf(a, c), of[own], func(p *path) { p.intoRoot(c, p.root(a)) })
				hold(dropOf(a), 0, func(p *path) { p.intoRoot(a, 0) })
			}
		}
	}
}

// What others do amid the jobs: the phase word counts as it was loaded, and a root's object as it was when it was looked at.
func TestP23_1_AmidOthers(t *testing.T) {
	idle, mark := momentOf(api.Idle, 0, 5), momentOf(api.Mark, 1, 7)
	one, two := tagged(1, 4), tagged(2, last)
	words := whites(idle) // the objects are white in the colour 0
	hold := func(name string, j api.Job, want api.Answer, do func(p *path)) {
		t.Helper()
		p := path{t: t, sh: duo, hand: 1, words: words}
		do(&p)
		p.hold(words, never, j, want)
	}
	for _, j := range []api.Job{dropOf(0), newOf(0), copyOf(1, 0), poll} {
		hold("the phase turns behind its load", j, map[int]api.Answer{api.Drop: told(0), api.New: told(tagged(3, 7)), api.Copy: told(two), api.Poll: told(idle)}[j.Kind], func(p *path) {
			p.beginAmid(func() { p.other(0, mark) })
			switch j.Kind {
			case api.Drop:
				p.intoRoot(0, 0)
			case api.New:
				p.intoRoot(0, p.make(1))
			case api.Copy:
				p.intoRoot(0, p.root(1))
			}
		})
	}
	hold("the phase turns ahead of its load", dropOf(0), told(0), func(p *path) {
		p.other(0, mark)
		p.begin()
		p.intoRoot(0, 0)
	})
	hold("the phase turns behind the beginning", getOf(0, 0, 0), told(two), func(p *path) {
		p.begin()
		p.other(0, mark)
		p.load(trial.SlotAt(duo, p.object(0), 0))
		p.intoRoot(0, two)
	})
	hold("the object goes behind the look at the root", getOf(0, 0, 0), none, func(p *path) {
		p.begin()
		p.root(0)
		p.other(15, tagged(0, 5))
		p.look(1)
	})
	hold("the object is another one by then", putOf(0, 0, 1), none, func(p *path) {
		p.begin()
		p.root(0)
		p.other(15, tagged(1, 5))
		p.look(1)
	})
	hold("the object goes behind the look at it", putOf(0, 0, 1), told(two), func(p *path) {
		p.begin()
		p.object(0)
		p.other(15, tagged(0, 5))
		p.into(18, p.root(1))
	})
	hold("the root shows another one by the second look", putOf(0, 0, 0), told(two), func(p *path) {
		p.begin()
		p.object(0)
		p.other(12, two)
		p.root(0)
		p.into(18, two)
	})
	hold("the slot changes ahead of its load", getOf(0, 0, 1), told(one), func(p *path) {
		p.begin()
		p.object(0)
		p.other(18, one)
		p.load(18)
		p.intoRoot(1, one)
	})
	hold("the slot changes behind its load", getOf(0, 0, 1), told(two), func(p *path) {
		p.begin()
		p.object(0)
		p.load(18)
		p.other(18, one)
		p.intoRoot(1, two)
	})
	hold("another hand makes the object first", newOf(0), none, func(p *path) {
		p.begin()
		p.load(1)
		p.load(24)
		p.other(1, tagged(0, 0))
		p.lost(1)
		p.load(1)
	})
	hold("another hand gives one back meanwhile", finalOf(0), told(tagged(3, 8)), func(p *path) {
		p.begin()
		p.load(1)
		p.load(24)
		p.other(1, tagged(3, 1))
		p.lost(1)
		p.load(1)
		p.load(24)
		p.cas(1, tagged(0, 2))
		p.other(23, tagged(0, 8))
		p.load(23)
		p.store(23, tagged(5, 8))
		p.count()
		p.intoRoot(0, tagged(3, 8))
	})
	hold("another hand takes the first one", takeOf(0), told(two), func(p *path) {
		p.begin()
		p.load(3)
		p.load(17)
		p.other(3, tagged(2, 10))
		p.lost(3)
		p.intoRoot(0, p.take())
	})
	hold("another hand takes all", takeOf(0), none, func(p *path) {
		p.begin()
		p.load(3)
		p.load(17)
		p.other(3, tagged(0, 10))
		p.lost(3)
		p.load(3)
	})
}

// Two hands, each with its own roots and its own ack, at one object's slot, at one free list and at one queue.
func TestP23_1_TwoHands(t *testing.T) {
	words := puts(fresh(duo), 10, 1, 12, 1, 15, 1, 1, 2)
	mutators.HoldSteps(t, duo, words, [][]api.Job{{newOf(1)}, {newOf(1)}}, []int{0, 1, 0, 1, 0, 1, 0, 1, 1, 0}, []api.Step{
		load(0, 0, 0), load(1, 0, 0), store(0, 8, 0, 0), store(1, 9, 0, 0), load(0, 1, 2), load(1, 1, 2), load(0, 20, 3), load(1, 20, 3),
		trial.CAS(1, 1, 2, tagged(3, 1)), trial.Lost(0, 1, tagged(3, 1)), load(1, 19, 0), load(0, 1, tagged(3, 1)), store(1, 19, 0, 1), load(0, 24, 0),
		trial.Add(1, 4, 0, 1), trial.CAS(0, 1, tagged(3, 1), tagged(0, 2)), store(1, 13, 0, 2), load(0, 23, 0), store(0, 23, 0, 1), trial.Add(0, 4, 1, 2), store(0, 11, 0, 3),
	}, [][]api.Answer{{told(3)}, {told(2)}}, puts(words, 1, tagged(0, 2), 4, 2, 11, 3, 13, 2, 19, 1, 23, 1))
	mutators.HoldSteps(t, duo, words, [][]api.Job{{putOf(0, 0, 0)}, {getOf(0, 0, 1)}}, []int{0, 0, 0, 0, 0, 1, 1, 1, 1, 0, 0}, []api.Step{
		load(0, 0, 0), store(0, 8, 0, 0), load(0, 10, 1), load(0, 15, 1), load(0, 10, 1),
		load(1, 0, 0), store(1, 9, 0, 0), load(1, 12, 1), load(1, 15, 1), store(0, 18, 0, 1), load(1, 18, 1), store(1, 13, 0, 1),
	}, [][]api.Answer{{told(1)}, {told(1)}}, puts(words, 18, 1, 13, 1))
}

// Bye of each hand is one step; of one that isn't there, and of a shape that is none, it is a step at no word.
func TestP23_1_Bye(t *testing.T) {
	hold := func(sh api.Shape, hand int, words []uint64, at int) {
		t.Helper()
		var m *cells.Mem
		had, put := uint64(0), uint64(0)
		if words != nil {
			m, _ = cells.New(words)
		}
		if at >= 0 && at < len(words) {
			had, put = words[at], never
			words = with(words, at, never)
		}
		k := mutator.Bye(sh, hand)
		s, how := k.Step(m)
		if s != store(hand, at, had, put) || how != turn.Ended || k.Answer() != told(0) || !slices.Equal(m.Words(), words) {
			t.Fatal(sh, hand, s, how, k.Answer())
		}
	}
	for _, sh := range trial.RightShapes() {
		words := make([]uint64, trial.SizeOf(sh))
		for at := range words {
			words[at] = uint64(5000 + at)
		}
		for hand := range sh.Hands {
			hold(sh, hand, words, 8+hand)
			hold(sh, hand, words[:8+hand], 8+hand)
			hold(sh, hand, nil, 8+hand)
			hold(sh, hand, with(words, 8+hand, never), 8+hand)
		}
		for _, hand := range append(trial.Ends(), sh.Hands, sh.Hands+1, api.MaxHands, 1<<32) {
			hold(sh, hand, words, -1)
			hold(sh, hand, nil, -1)
		}
	}
	words := fresh(small)
	for i, sh := range trial.WrongShapes() {
		hold(sh, i%9-1, words, -1)
		hold(sh, 0, words, -1)
	}
}

// A task alone, on memories by hand: shorter than the shape's, longer, and none at all.
func TestP23_1_TaskAlone(t *testing.T) {
	from := trial.Source(1)
	for range 3000 {
		sh := from.SmallShape()
		long := append(anyWords(&from, sh), from.Words(sh)...)
		words := long[:from.Below(len(long)+1)]
		if from.Below(2) == 0 {
			words = long[:trial.HeadAt(sh, sh.Objects)+from.Below(3+sh.Slots)] // some of the last object's words are none
		}
		l := layerFrom([]uint64{never, long[0], anyMoment(&from)}[from.Below(3)])
		for hand := range sh.Hands {
			j := anyJob(&from, sh)
			l.HoldTask(t, sh, hand, j, words, 60)
			l.HoldTask(t, sh, hand, j, nil, 60)
		}
	}
}

// The same with acts of others amid it, at the words that it looks at and at any others; of these most are at the phase word.
func TestP23_1_TaskAmidOthers(t *testing.T) {
	from := trial.Source(2)
	again, ended := 0, 0
	for range 20000 {
		sh := from.SmallShape()
		words := anyWords(&from, sh)
		objects, places := trial.ObjectsIn(sh, words), shown(sh)
		l := layerFrom([]uint64{never, words[0], anyMoment(&from)}[from.Below(3)])
		j := anyJob(&from, sh)
		l.HoldTaskAmid(t, sh, from.Below(sh.Hands), j, words, 80, func(i int) []api.Step {
			if i > 50 || from.Below(3) > 0 {
				return nil
			}
			number := 1 + from.Below(sh.Objects)
			at := []int{
				api.Phase, api.Phase, api.Free, api.Grey, api.Queue, trial.HeadAt(sh, number), trial.LinkAt(sh, number), trial.NextAt(sh, number),
				places[from.Below(len(places))], places[from.Below(len(places))], from.Below(len(words)),
			}[from.Below(11)]
			put := []uint64{half, 1, 2, 256, anyMoment(&from), from.One(sh), from.Handle(objects)}[from.Below(7)]
			if at == api.Phase {
				return []api.Step{{Act: api.Store, At: at, Put: anyMoment(&from)}}
			}
			return []api.Step{{Act: []int{api.Add, api.Add, api.Store}[from.Below(3)], At: at, Put: put}}
		})
		if j.Kind == api.GetWeak {
			again++
		}
		ended++
	}
	if again < 500 || ended < 20000 {
		t.Error(again, ended)
	}
}

// Jobs of several hands in every order of their steps.
func TestP23_1_EveryOrder(t *testing.T) {
	mark := momentOf(api.Mark, 1, 7)
	sweep := momentOf(api.Sweep, 1, 7)
	// Both hands show 1, which is white and shows 2, which is white too; 3 is free, and the weak word shows 2.
	heap := puts(fresh(duo), 1, 3, 10, 1, 11, 2, 12, 1, 14, 2, 15, 1, 18, 2, 19, 5, 22, 1)
	queue := puts(heap, 3, 2, 21, 1, 17, 0)
	// Three hands with a root each, which show 1, in use, which shows itself; 2 is free.
	trio := api.Shape{Objects: 2, Slots: 1, Hands: 3, Roots: 1, Weaks: 1} // the roots are 11 to 13, the weak word is 14, the heads are 15 and 19
	ring := puts(fresh(trio), 1, 2, 11, 1, 12, 1, 13, 1, 14, 1, 15, 1, 18, 1)
	for _, c := range []struct {
		name  string
		sh    api.Shape
		words []uint64
		hands [][]api.Job
		least int // spots
	}{
		{"News", duo, fresh(duo), [][]api.Job{{newOf(0), finalOf(1)}, {newOf(0), poll}}, 700},
		{"two News of one object", duo, heap, [][]api.Job{{newOf(0)}, {finalOf(0)}}, 90},
		{"two News, marking", duo, with(heap, 0, mark), [][]api.Job{{newOf(0)}, {newOf(1)}}, 150},
		{"Put beside Get", duo, heap, [][]api.Job{{putOf(0, 0, -1)}, {getOf(0, 0, 1)}}, 40},
		{"Put beside Get, marking", duo, with(heap, 0, mark), [][]api.Job{{putOf(0, 0, -1)}, {getOf(0, 0, 1)}}, 170},
		{"two Puts, marking", duo, with(heap, 0, mark), [][]api.Job{{putOf(0, 0, 0)}, {putOf(0, 0, -1)}}, 350},
		{"Drop beside Copy, marking", duo, with(heap, 0, mark), [][]api.Job{{dropOf(0)}, {copyOf(0, 1)}}, 120},
		{"weak words", duo, with(heap, 0, mark), [][]api.Job{{showOf(0, 0)}, {seeOf(0, 1)}}, 60},
		{"weak words, sweeping", duo, with(heap, 0, sweep), [][]api.Job{{showOf(0, 0), seeOf(0, 0)}, {seeOf(0, 1)}}, 45},
		{"two Takes", duo, queue, [][]api.Job{{takeOf(1)}, {takeOf(1)}}, 110},
		{"two Takes, marking", duo, with(queue, 0, mark), [][]api.Job{{takeOf(1)}, {takeOf(0)}}, 1500},
		{"Polls", duo, heap, [][]api.Job{{poll, poll}, {poll, dropOf(1)}}, 20},
		{"three hands", trio, ring, [][]api.Job{{newOf(0)}, {putOf(0, 0, -1)}, {getOf(0, 0, 0)}}, 400},
		{"three hands drop one, marking", trio, with(ring, 0, mark), [][]api.Job{{dropOf(0)}, {dropOf(0)}, {dropOf(0)}}, 1000},
	} {
		spots := everyOrder(t, c.sh, c.words, c.hands, func(schedule []int) {
			play(t, c.sh, c.words, c.hands, schedule, len(schedule))
		})
		if spots < c.least {
			t.Error(c.name, spots)
		}
	}
}

// Another hand turns the phase word, or wipes the weak word, amid jobs, in every order of the steps.
func TestP23_1_EveryOrderAmid(t *testing.T) {
	turns := func(phases ...int) []api.Job {
		var out []api.Job
		for i, phase := range phases {
			out = append(out, api.Job{Kind: another, A: api.Phase, H: momentOf(phase, 1, 8+i)})
		}
		return out
	}
	closed := puts(fresh(duo), 0, momentOf(api.Close, 1, 7), 1, 3, 10, 1, 12, 1, 14, 2, 15, 3, 18, 2, 19, 5, 22, 1)
	for _, c := range []struct {
		name  string
		words []uint64
		hands [][]api.Job
		least int // spots
	}{
		{"Idle, Arm, Mark", with(closed, 0, 0), [][]api.Job{{dropOf(0), poll, {Kind: bye}}, {getOf(0, 0, 1)}, turns(api.Arm, api.Mark)}, 500},
		{"a New as the colour turns", with(closed, 0, 0), [][]api.Job{{newOf(0), poll}, {newOf(0)}, turns(api.Arm)}, 500},
		{"Close, Sweep", closed, [][]api.Job{{seeOf(0, 1), {Kind: bye}}, {seeOf(0, 1)}, turns(api.Sweep)}, 100},
		{"Close, Mark, Close", closed, [][]api.Job{{seeOf(0, 1)}, nil, turns(api.Mark, api.Close, api.Sweep)}, 100},
		{"the weak word is wiped", closed, [][]api.Job{{seeOf(0, 1)}, nil, {{Kind: another, A: 14}, turns(api.Sweep)[0]}}, 20},
		{"two hands see", closed, [][]api.Job{{seeOf(0, 1)}, {seeOf(0, 0), {Kind: bye}}, turns(api.Mark, api.Close, api.Sweep)}, 1000},
		{"the object is shaded", closed, [][]api.Job{{seeOf(0, 1)}, nil, {{Kind: another, A: 19, H: 7}, {Kind: another, A: 14}}}, 20},
	} {
		// Where a GetWeak stands hangs on what it has done since it has begun last, and on what was told: so there is an end of it.
		spots := amid.EveryPast(t, duo, c.words, c.hands, func(turn.Task) string { return "" }, func(schedule []int) string {
			x, _ := amid.HoldRun(t, duo, c.words, c.hands, schedule, len(schedule))
			return sinceBegun(x, c.hands)
		})
		if spots < c.least {
			t.Error(c.name, spots)
		}
	}
}

// sinceBegun: what each hand has told last, and its steps since it has loaded the phase word last.
func sinceBegun(x api.Trace, hands [][]api.Job) string {
	since, last := make([][]api.Step, len(hands)), slices.Repeat([]uint64{never}, len(hands))
	for _, s := range x.Steps {
		if s.At == api.Phase && s.Act == api.Load {
			since[s.Hand] = nil
		}
		since[s.Hand] = append(since[s.Hand], s)
		if s.At == trial.AckAt(duo, s.Hand) {
			last[s.Hand] = s.Put
		}
	}
	return fmt.Sprint(since, last)
}

// All schedules of the first steps; behind them the hands take turns.
func TestP23_1_EverySchedule(t *testing.T) {
	for _, phase := range []int{api.Idle, api.Mark} {
		words := puts(whites(momentOf(phase, 1, 2)), 10, tagged(1, 4), 11, tagged(2, last))
		for _, hands := range [][][]api.Job{
			{{newOf(0), putOf(0, 0, 1)}, {newOf(1), getOf(0, 0, 0)}},
			{{putOf(0, 0, -1), takeOf(1)}, {getOf(0, 0, 1), takeOf(0)}},
			{{showOf(0, 0), dropOf(0)}, {seeOf(0, 1), copyOf(1, 0)}},
		} {
			for schedule := range trial.Lists(2, 11) {
				play(t, duo, words, hands, schedule, 200)
			}
		}
	}
}
