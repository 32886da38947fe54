package mutator_test

import (
	"slices"
	"testing"

	"midden/api"
	"midden/mark"
	"midden/mutator"
	"midden/sweep"
	"midden/trial"
	"midden/weak"
)

// A tally is how often each kind of thing comes in runs.
type tally struct {
	ended, amid                       int               // runs
	ok, none                          [api.Poll + 1]int // jobs that have told something, and that haven't
	told, kept                        int               // beginnings with a step that tells, and without one
	freesLost, greysLost, queuesLost  int               // CAS that were not done
	headsLost, shaded, made           int               // and heads
	roots, slots, weaks, odd, barrier int               // stores; loads at no word; runs with the barrier
}

func (c *tally) add(sh api.Shape, words []uint64, hands [][]api.Job, x api.Trace, a [][]api.Answer) {
	if x.Ended {
		c.ended++
	} else {
		c.amid++
	}
	if phase := words[api.Phase] % 8; phase > api.Idle && phase < api.Sweep {
		c.barrier++
	}
	for h, answers := range a {
		for k, told := range answers {
			count(told.OK, &c.ok[hands[h][k].Kind], &c.none[hands[h][k].Kind])
		}
	}
	kind, _ := kinds(sh)
	begun := make([]bool, api.MaxHands)
	for _, s := range x.Steps {
		if begun[s.Hand] {
			count(s.Act == api.Store && s.At == trial.AckAt(sh, s.Hand), &c.told, &c.kept)
		}
		begun[s.Hand] = s.At == api.Phase
		if s.At < 0 {
			c.odd++
			continue
		}
		c.addStep(kind[s.At], s)
	}
}

func (c *tally) addStep(kind int, s api.Step) {
	isLost := s.Act == api.CAS && !s.OK
	switch {
	case s.Act == api.Store && kind == aRoot:
		c.roots++
	case s.Act == api.Store && kind == aSlot:
		c.slots++
	case s.Act == api.Store && kind == aWeak:
		c.weaks++
	case s.Act == api.Store && kind == aHead:
		c.made++
	case s.Act == api.CAS && kind == aHead:
		count(s.OK, &c.shaded, &c.headsLost)
	case isLost && s.At == api.Free:
		c.freesLost++
	case isLost && s.At == api.Grey:
		c.greysLost++
	case isLost && s.At == api.Queue:
		c.queuesLost++
	}
}

func count(is bool, one, other *int) {
	if is {
		*one++
	} else {
		*other++
	}
}

// least: of what comes least often. (Copy, Drop, MakeWeak and Poll always tell something.)
func (c *tally) least() int {
	return slices.Min(slices.Concat(c.ok[api.New:], []int{
		c.none[api.New], c.none[api.Get], c.none[api.Put], c.none[api.GetWeak], c.none[api.Take],
		c.ended, c.amid, c.told, c.kept, c.freesLost, c.greysLost, c.queuesLost, c.headsLost, c.shaded, c.made,
		c.roots, c.slots, c.weaks, c.odd, c.barrier,
	}))
}

// Any words, any jobs, any schedules.
func TestP23_1_AnyWordsByModel(t *testing.T) {
	from := trial.Source(11)
	var c tally
	for range 12000 {
		sh := crowd(&from, from.SmallShape())
		words, hands := anyWords(&from, sh), anyJobs(&from, sh, 6)
		schedule := from.Schedule(from.Below(150))
		if from.Below(2) == 0 {
			schedule = from.Streaks(20)
		}
		x, a := play(t, sh, words, hands, schedule, from.Below(600))
		c.add(sh, words, hands, x, a)
	}
	if c.least() < 150 {
		t.Errorf("something comes too seldom: %+v", c)
	}
}

// Memories that runs of the layers below leave: heaps, and acts of any kind at any word, and the collector's work in any colour; and a
// run goes on where another one was left.
func TestP23_1_MemoriesOfRuns(t *testing.T) {
	from := trial.Source(12)
	var c tally
	for range 1500 {
		sh := crowd(&from, from.Shape())
		words := from.Ran(sh)
		if from.Below(3) == 0 {
			words = from.Acted(sh, words)
		}
		words[api.Phase] = anyMoment(&from)
		for range 3 {
			if from.Below(2) == 0 { // all objects become white, as in a cycle's first act
				words = with(words, api.Phase, momentOf(api.Mark, int(1-headColour(sh, words)), 3))
			}
			hands := anyJobs(&from, sh, 6)
			x, a := play(t, sh, words, hands, from.Schedule(from.Below(150)), from.Below(500))
			c.add(sh, words, hands, x, a)
			words = x.Words
			colour := from.Below(2)
			switch from.Below(4) {
			case 0:
				words = playBelow(t, mark.Play, sh, words, []api.Job{{Kind: mark.Roots, C: colour}, {Kind: mark.Drain, C: colour}})
			case 1:
				words = playBelow(t, sweep.Play, sh, words, []api.Job{{Kind: sweep.Pass, C: colour}})
			case 2:
				words = with(words, api.Phase, anyMoment(&from))
			}
		}
	}
	if c.least() < 10 {
		t.Errorf("something comes too seldom: %+v", c)
	}
}

// headColour: the colour of most objects.
func headColour(sh api.Shape, words []uint64) uint64 {
	ones := uint64(0)
	for number := 1; number <= sh.Objects; number++ {
		ones += words[trial.HeadAt(sh, number)] / 2 % 2
	}
	return ones * 2 / uint64(sh.Objects+1)
}

// playBelow: the words behind jobs of a layer below, by one hand; it may be left in the middle.
func playBelow(t *testing.T, play func(sh api.Shape, words []uint64, hands [][]api.Job, schedule []int, most int) (api.Trace, [][]api.Answer, api.Errno), sh api.Shape, words []uint64, jobs []api.Job) []uint64 {
	t.Helper()
	x, _, e := play(sh, words, [][]api.Job{jobs}, nil, 1000)
	if e != api.OK {
		t.Fatalf("%+v %x: %v", sh, words, e)
	}
	return x.Words
}

// Other hands turn the phase word and say Bye, by any schedule: a hand goes by what it has loaded until its job's end.
func TestP23_1_AnyPhasesByModel(t *testing.T) {
	from := trial.Source(16)
	told, kept, again := 0, 0, 0
	for range 6000 {
		sh := crowd(&from, from.SmallShape())
		words := anyWords(&from, sh)
		words[api.Phase] = momentOf(from.Below(5), from.Below(2), 0)
		hands := anyJobs(&from, sh, 6)
		for h := range hands {
			if from.Below(2) == 0 {
				hands[h] = append(hands[h], api.Job{Kind: bye})
			}
		}
		turns := make([]api.Job, 1+from.Below(8))
		for i := range turns {
			turns[i] = api.Job{Kind: another, A: api.Phase, H: momentOf([]int{0, 1, 2, 3, 3, 4}[from.Below(6)], from.Below(2), from.Below(2))}
		}
		x, _ := amid.HoldRun(t, sh, words, append(hands, turns), from.Schedule(from.Below(200)), from.Below(300))
		begun := make([]int, sh.Hands+1)
		for _, s := range x.Steps {
			if s.Hand == sh.Hands {
				continue
			}
			if begun[s.Hand] > 0 {
				count(s.At == trial.AckAt(sh, s.Hand), &told, &kept)
			}
			if isLoad := s.At == api.Phase; isLoad {
				begun[s.Hand]++
			} else if s.At >= 0 {
				begun[s.Hand] = 0
			}
		}
		jobs, _, _ := amid.Noted(t, sh, words, append(hands, turns), nil, 200)
		for _, j := range jobs {
			if loads := slices.DeleteFunc(slices.Clone(j.Steps), func(s api.Step) bool { return s.At != api.Phase }); j.Kind == api.GetWeak && len(loads) > 1 {
				again++
			}
		}
	}
	if min(told, kept, again) < 300 {
		t.Error("something comes too seldom:", told, kept, again)
	}
}

// Fresh memories: each kind of job, by each hand of each shape.
func TestP23_1_FreshMemories(t *testing.T) {
	for _, sh := range trial.RightShapes() {
		for hand := range sh.Hands {
			jobs := []api.Job{poll, copyOf(0, sh.Roots-1), takeOf(0), newOf(0), finalOf(sh.Roots - 1), dropOf(0), newOf(0), poll}
			if sh.Slots > 0 {
				jobs = append(jobs, putOf(0, sh.Slots-1, 0), getOf(0, sh.Slots-1, sh.Roots-1), putOf(0, 0, -1), getOf(0, 0, 0))
			}
			if sh.Weaks > 0 {
				jobs = append(jobs, seeOf(sh.Weaks-1, 0), showOf(sh.Roots-1, sh.Weaks-1), dropOf(sh.Roots-1), seeOf(sh.Weaks-1, 0))
			}
			hands := make([][]api.Job, hand+1)
			hands[hand] = jobs
			x, a := play(t, sh, fresh(sh), hands, nil, api.MaxSteps)
			if !x.Ended || len(a[hand]) != len(jobs) || a[hand][3] != told(1) || x.Words[trial.AckAt(sh, hand)] != 0 {
				t.Errorf("%+v: %v %v", sh, x, a)
			}
		}
	}
}

// most in the middle of a job: what it has done so far stands in the words, and no answer is told; most of 0 does nothing.
func TestP23_1_MostInTheMiddle(t *testing.T) {
	moment := momentOf(api.Arm, 1, 2)
	words := puts(fresh(small), 0, moment, 9, 2, 15, 0, 16, 1, 1, 1, 13, 0)
	hands := [][]api.Job{{newOf(1), putOf(1, 0, 0), poll, dropOf(0)}}
	changes := []trial.Put{ // what each step puts
		{0, moment}, {8, moment},
		{1, 1}, {13, 0}, {1, tagged(0, 1)}, {12, 0}, {12, 3}, {4, 1}, {10, 0}, {12, 3}, {10, 1},
		{0, moment}, {10, 1}, {12, 3}, {9, 2}, {15, 0}, {16, 1}, {16, 3}, {2, 0}, {17, 0}, {2, tagged(2, 1)}, {15, 2},
		{0, moment},
		{0, moment}, {9, 2}, {16, 3}, {9, 0},
	}
	all := []api.Answer{told(1), told(2), told(moment), told(0)}
	for most := range len(changes) + 5 {
		x, a := play(t, small, words, hands, []int{4}, most)
		made := min(most, len(changes))
		ends, want := 0, slices.Clone(words)
		for _, put := range changes[:made] {
			want[put[0]] = put[1]
		}
		for _, end := range []int{11, 22, 23, len(changes)} {
			if most >= end {
				ends++
			}
		}
		if x.Ended != (ends == 4) || len(x.Steps) != made || !slices.Equal(x.Words, want) || !trial.SameAnswers(a, [][]api.Answer{all[:ends]}) {
			t.Error(most, x, a, want)
		}
	}
	from := trial.Source(13)
	busy := puts(whites(momentOf(api.Mark, 1, 2)), 10, tagged(1, 4), 11, tagged(2, last))
	for most := range 100 {
		play(t, duo, busy, [][]api.Job{{newOf(0), putOf(0, 0, 1), takeOf(1)}, {dropOf(0), seeOf(0, 0), getOf(0, 0, 1)}}, from.Schedule(60), most)
	}
}

// Schedules that are empty, shorter than the run, just as long, and longer.
func TestP23_1_Schedules(t *testing.T) {
	from := trial.Source(14)
	long := from.Schedule(120)
	words := puts(whites(momentOf(api.Mark, 1, 2)), 10, tagged(1, 4), 11, tagged(2, last))
	for n := range len(long) {
		hands := [][]api.Job{{newOf(0), putOf(0, 0, 1), takeOf(1), poll}, {dropOf(0), seeOf(0, 0), getOf(0, 0, 1), copyOf(0, 1)}, {}}
		if x, _ := play(t, duo, words, hands, long[:n], api.MaxSteps); !x.Ended {
			t.Error(n, x)
		}
	}
}

// At the limits: the greatest shape, all hands with 256 jobs each, a schedule and most of 65536.
func TestP23_1_AtTheLimits(t *testing.T) {
	from := trial.Source(15)
	sh := api.Shape{Objects: api.MaxObjects, Slots: api.MaxSlots, Hands: api.MaxHands - 1, Roots: api.MaxRoots, Weaks: api.MaxWeaks}
	words := fresh(sh)
	words[api.Phase] = momentOf(api.Mark, 1, 1<<20)
	hands := make([][]api.Job, api.MaxHands)
	for h := range sh.Hands {
		for range api.MaxJobs {
			hands[h] = append(hands[h], anyJob(&from, sh))
		}
	}
	x, a := play(t, sh, words, hands, from.Schedule(api.MaxSteps), api.MaxSteps)
	if !x.Ended || len(a[6]) != api.MaxJobs || x.Words[api.Allocated] != api.MaxObjects {
		t.Error(x.Ended, len(x.Steps), x.Words[api.Allocated])
	}
	// A GetWeak that begins again and again makes as many steps as there may be.
	white := puts(whites(momentOf(api.Close, 1, 3)), 10, tagged(1, 4))
	x, a, e := mutator.Play(duo, white, [][]api.Job{{poll, seeOf(0, 0)}, {seeOf(0, 0)}}, from.Schedule(api.MaxSteps), api.MaxSteps)
	if e != api.OK || x.Ended || len(x.Steps) != api.MaxSteps || len(a[0]) != 1 || len(a[1]) != 0 {
		t.Error(e, x.Ended, len(x.Steps), a)
	}
}

// What a hand's jobs do, the layers below see, and the other way round.
func TestP23_1_WithTheLayersBelow(t *testing.T) {
	x, _ := play(t, duo, fresh(duo), [][]api.Job{{newOf(0), newOf(1), putOf(0, 0, 1), showOf(1, 0), dropOf(1)}, {newOf(0), dropOf(0)}}, nil, 200)
	y, a, e := weak.Play(duo, x.Words, [][]api.Job{{{Kind: weak.See, B: 0, C: api.Mark, A: 1}}}, nil, 100)
	if e != api.OK || !a[0][0].OK || trial.Number(y.Words[api.Grey]) != trial.Number(a[0][0].Val) {
		t.Fatal(e, a, y)
	}
	marked := playBelow(t, mark.Play, duo, x.Words, []api.Job{{Kind: mark.Roots, C: 1}, {Kind: mark.Drain, C: 1}})
	swept := playBelow(t, sweep.Play, duo, marked, []api.Job{{Kind: sweep.Pass, C: 1}})
	swept[api.Phase] = momentOf(api.Idle, 1, 1)
	if swept[api.Freed] != 1 {
		t.Fatal(swept)
	}
	x, b := play(t, duo, swept, [][]api.Job{{getOf(0, 0, 1), newOf(1), newOf(1)}, {seeOf(0, 1)}}, []int{0}, 200)
	if !x.Ended || b[0][0].Val != b[1][0].Val || trial.Upper(b[0][1].Val) != 1 || b[0][2] != none {
		t.Error(x, b)
	}
	if _, _, e := mutator.Play(duo, x.Words, nil, nil, 0); e != api.OK {
		t.Error(e)
	}
}
