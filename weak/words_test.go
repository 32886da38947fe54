package weak_test

import (
	"slices"
	"testing"

	"midden/api"
	"midden/shape"
	"midden/trial"
	"midden/weak"
)

// A tally is how often each kind of thing comes in runs of both colours.
type tally struct {
	ended, amid                     int // runs
	made, none, plain, marked, seen int // jobs: Make; See of nothing, in Idle or Sweep, in Arm or Mark, in Close
	again                           int // See jobs that must look again
	shaded                          int // objects
	headsLost, greysLost            int // CAS that were not done
}

func (c *tally) add(hands [][]api.Job, x api.Trace, a [][]api.Answer) {
	if x.Ended {
		c.ended++
	} else {
		c.amid++
	}
	for h, answers := range a {
		for k, told := range answers {
			c.addJob(hands[h][k], told)
		}
	}
	for _, s := range x.Steps {
		switch isCAS := s.Act == api.CAS; {
		case isCAS && s.At == api.Grey && s.OK:
			c.shaded++
		case isCAS && s.At == api.Grey:
			c.greysLost++
		case isCAS && !s.OK:
			c.headsLost++
		}
	}
}

func (c *tally) addJob(j api.Job, told api.Answer) {
	switch {
	case j.Kind == weak.Make:
		c.made++
	case !told.OK:
		c.again++
	case told.Val == 0:
		c.none++
	case j.C == api.Idle || j.C == api.Sweep:
		c.plain++
	case j.C == api.Close:
		c.seen++
	default:
		c.marked++
	}
}

func (c *tally) least() int {
	return min(c.ended, c.amid, c.made, c.none, c.plain, c.marked, c.seen, c.again, c.shaded, c.headsLost, c.greysLost)
}

// Any words, jobs of both colours, in all phases, any schedules.
func TestP19_1_AnyWordsByModel(t *testing.T) {
	from := trial.Source(11)
	var c tally
	for range 15000 {
		sh := anyShape(&from)
		words := anyWords(&from, sh)
		hands := anyJobs(&from, sh, words, both, from.Below(api.MaxHands+1), 8)
		x, a := play(t, sh, words, hands, from.Schedule(from.Below(100)), from.Below(250))
		c.add(hands, x, a)
	}
	if c.least() < 500 {
		t.Errorf("something comes too seldom: %+v", c)
	}
}

// Fresh memories: nothing is in use, so nothing is shaded; the weak words hold what was set last, and all is told as it stands there.
func TestP19_1_FreshMemories(t *testing.T) {
	for _, sh := range trial.RightShapes() {
		words, _ := shape.Fresh(sh)
		var jobs []api.Job
		var want []api.Answer
		is, steps := slices.Clone(words), 0
		for number := range sh.Weaks {
			h := uint64(1 + number%sh.Objects)
			jobs = append(jobs, see(number, api.Mark, 1), set(number, h+half), set(number, h),
				see(number, api.Idle, 0), see(number, api.Arm, 1), see(number, api.Close, 0), see(number, api.Sweep, 1))
			want = append(want, told(0), told(h+half), told(h), told(h), told(h), told(h), told(h))
			is[trial.WeakAt(sh, number)] = h
			steps += 1 + 1 + 1 + 1 + 2 + 3 + 1
		}
		x, a := play(t, sh, words, [][]api.Job{jobs}, nil, api.MaxSteps)
		if !x.Ended || !slices.Equal(x.Words, is) || len(x.Steps) != steps || !slices.Equal(a[0], want) {
			t.Errorf("%+v: %v %v", sh, x, a)
		}
	}
}

// Memories that runs of the layers below leave: heaps, and acts of any kind at any word.
func TestP19_1_MemoriesOfRuns(t *testing.T) {
	from := trial.Source(12)
	var c tally
	for range 2000 {
		sh := from.Shape()
		sh.Weaks = max(sh.Weaks, 1)
		words := from.Ran(sh)
		if from.Below(3) == 0 {
			words = from.Acted(sh, words)
		}
		hands := anyJobs(&from, sh, words, both, from.Below(api.MaxHands+1), 16)
		x, a := play(t, sh, words, hands, from.Schedule(from.Below(100)), from.Below(500))
		c.add(hands, x, a)
		// A run goes on where another one was left.
		more := anyJobs(&from, sh, x.Words, both, 3, 6)
		y, b := play(t, sh, x.Words, more, from.Schedule(40), 200)
		c.add(more, y, b)
	}
	if c.least() < 100 {
		t.Errorf("something comes too seldom: %+v", c)
	}
}

// most in the middle of a job: what it has done so far stands in the words, and no answer is told; most of 0 does nothing.
func TestP19_1_MostInTheMiddle(t *testing.T) {
	words := puts(memory(tagged(3, 1), cell{1, 9}, cell{1, 9}, cell{3, 0}), 12, 1, 13, 3)
	hands := [][]api.Job{nil, {see(0, api.Mark, 1), see(1, api.Close, 1), set(1, 2), see(1, api.Close, 1)}, {}}
	changes := []trial.Put{{15, 3}, {16, 3}, {2, tagged(1, 2)}, {13, 2}}
	behind := []int{3, 5, 6, 10} // so many steps
	answers := []api.Answer{told(1), told(3), told(2), again}
	for most := range 15 {
		x, a := play(t, three, words, hands, []int{4}, most)
		want, ended := slices.Clone(words), []api.Answer{}
		for i, p := range changes {
			if most >= behind[i] {
				want[p[0]] = p[1]
			}
		}
		for i, n := range []int{6, 9, 10, 12} {
			if most >= n {
				ended = append(ended, answers[i])
			}
		}
		if x.Ended != (most >= 12) || len(x.Steps) != min(most, 12) || !slices.Equal(x.Words, want) || !trial.SameAnswers(a, [][]api.Answer{nil, ended, nil}) {
			t.Error(most, x, a, want)
		}
	}
	from := trial.Source(13)
	for most := range 60 {
		play(t, three, words, [][]api.Job{{see(0, api.Mark, 1), set(0, 2)}, {see(0, api.Arm, 1)}, nil, {see(0, api.Close, 1), see(0, api.Mark, 0)}}, from.Schedule(40), most)
	}
}

// Schedules that are empty, shorter than the run, just as long, and longer.
func TestP19_1_Schedules(t *testing.T) {
	from := trial.Source(14)
	long := from.Schedule(80)
	words := puts(memory(tagged(3, 1), cell{1, 9}, cell{1, 9}, cell{3, 0}), 12, 2, 13, 1, 14, 2)
	for n := range len(long) {
		hands := [][]api.Job{{see(0, api.Mark, 1), see(1, api.Close, 1)}, nil, {see(2, api.Arm, 1)}, {}, {set(0, 1), see(1, api.Mark, 1)}}
		if x, _ := play(t, three, words, hands, long[:n], api.MaxSteps); !x.Ended {
			t.Error(n, x)
		}
	}
}

// At the limits: the greatest shape, 8 hands with 256 jobs each, a schedule and most of 65536.
func TestP19_1_AtTheLimits(t *testing.T) {
	from := trial.Source(15)
	sh := api.Shape{Objects: api.MaxObjects, Slots: api.MaxSlots, Hands: api.MaxHands - 1, Roots: api.MaxRoots, Weaks: api.MaxWeaks}
	words := trial.Memory(sh, api.Grey, tagged(0, half-50))
	for number := 1; number <= sh.Objects; number++ {
		words[trial.HeadAt(sh, number)] = half + 1
	}
	hands := make([][]api.Job, api.MaxHands)
	for h := range hands {
		for range api.MaxJobs {
			j := see(from.Below(sh.Weaks), from.Below(5), from.Below(2))
			if from.Below(3) == 0 {
				j = set(j.B, tagged(1+from.Below(sh.Objects), 1))
			}
			hands[h] = append(hands[h], j)
		}
	}
	x, _ := play(t, sh, words, hands, from.Schedule(api.MaxSteps), api.MaxSteps)
	if !x.Ended || len(x.Steps) < 4000 {
		t.Error(x.Ended, len(x.Steps))
	}
}
