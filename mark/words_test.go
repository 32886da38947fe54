package mark_test

import (
	"slices"
	"testing"

	"midden/api"
	"midden/mark"
	"midden/shape"
	"midden/trial"
)

// A tally is how often each kind of thing comes in runs of both colours.
type tally struct {
	ended, amid          int // runs
	shaded, none         int // Roots that have shaded something, and that haven't
	drained, idle        int // Drains that have pulled something, and that haven't
	queued               int // next words that were looked at
	headsLost, greysLost int // CAS that were not done
}

func (c *tally) add(sh api.Shape, hands [][]api.Job, x api.Trace, a [][]api.Answer) {
	if x.Ended {
		c.ended++
	} else {
		c.amid++
	}
	for h, answers := range a {
		for k, told := range answers {
			switch isRoots := hands[h][k].Kind == mark.Roots; {
			case isRoots && told.Val > 0:
				c.shaded++
			case isRoots:
				c.none++
			case told.Val > 0:
				c.drained++
			default:
				c.idle++
			}
		}
	}
	for _, s := range x.Steps {
		isLost := s.Act == api.CAS && !s.OK
		switch {
		case isLost && s.At == api.Grey:
			c.greysLost++
		case isLost:
			c.headsLost++
		case s.At == trial.NextAt(sh, 1) || s.At == trial.NextAt(sh, sh.Objects):
			c.queued++
		}
	}
}

func (c *tally) least() int {
	return min(c.ended, c.amid, c.shaded, c.none, c.drained, c.idle, c.queued, c.headsLost, c.greysLost)
}

// Any words, jobs of both colours, any schedules.
func TestP20_1_AnyWordsByModel(t *testing.T) {
	from := trial.Source(11)
	var c tally
	for range 6000 {
		sh := from.SmallShape()
		words := anyWords(&from, sh)
		hands := anyJobs(&from, both, from.Below(api.MaxHands+1), 4)
		x, a := play(t, sh, words, hands, from.Schedule(from.Below(150)), from.Below(300))
		c.add(sh, hands, x, a)
	}
	if c.least() < 500 {
		t.Errorf("something comes too seldom: %+v", c)
	}
}

// Fresh memories: nothing is in use and nothing waits; so each root is looked at, the queue, and Grey.
func TestP20_1_FreshMemories(t *testing.T) {
	for _, sh := range trial.RightShapes() {
		words, _ := shape.Fresh(sh)
		x, a := play(t, sh, words, [][]api.Job{nil, {drain(0), roots(1), drain(1), roots(0)}}, nil, api.MaxSteps)
		if !x.Ended || !slices.Equal(x.Words, words) || len(x.Steps) != 4+2*sh.Hands*sh.Roots || !slices.Equal(a[1], slices.Repeat([]api.Answer{told(0)}, 4)) {
			t.Errorf("%+v: %v %v", sh, x, a)
		}
		// Roots that show objects which are out of use: a head more is loaded for each.
		for hand := range sh.Hands {
			words[trial.RootAt(sh, hand, 0)] = uint64(sh.Objects)
		}
		x, a = play(t, sh, words, [][]api.Job{{roots(1), drain(1)}}, nil, api.MaxSteps)
		if !x.Ended || !slices.Equal(x.Words, words) || len(x.Steps) != sh.Hands*sh.Roots+sh.Hands+2 || !slices.Equal(a[0], []api.Answer{told(0), told(0)}) {
			t.Errorf("%+v: %v %v", sh, x, a)
		}
	}
}

// Memories that runs of the layers below leave: heaps, and acts of any kind at any word.
func TestP20_1_MemoriesOfRuns(t *testing.T) {
	from := trial.Source(12)
	var c tally
	for range 800 {
		sh := from.Shape()
		words := from.Ran(sh)
		if from.Below(3) == 0 {
			words = from.Acted(sh, words)
		}
		hands := anyJobs(&from, both, from.Below(api.MaxHands+1), 4)
		x, a := play(t, sh, words, hands, from.Schedule(from.Below(150)), from.Below(500))
		c.add(sh, hands, x, a)
		// A run goes on where another one was left.
		more := anyJobs(&from, both, 3, 4)
		y, b := play(t, sh, x.Words, more, from.Schedule(40), 300)
		c.add(sh, more, y, b)
	}
	if c.least() < 100 {
		t.Errorf("something comes too seldom: %+v", c)
	}
}

// most in the middle of a job: what it has done so far stands in the words, and no answer is told; most of 0 does nothing.
func TestP20_1_MostInTheMiddle(t *testing.T) {
	words := puts(memory(0, cell{1, 9}, cell{1, 9}, cell{3, 0}), 11, 1, 3, 0, 17, 0, 18, 2, 22, 3, 23, 0)
	hands := [][]api.Job{nil, {roots(1), drain(1)}, {}}
	// Roots: a root, another one, the five steps of Mark, two roots, Queue. Drain: three steps, two slots, of which the second one is
	// marked; three steps, two slots, of which the first one is looked at; and Grey.
	changes := []struct {
		behind int // so many steps
		put    trial.Put
	}{
		{4, trial.Put{14, 3}}, {6, trial.Put{15, 0}}, {7, trial.Put{2, tagged(1, 1)}}, {13, trial.Put{2, tagged(0, 2)}},
		{17, trial.Put{19, 3}}, {19, trial.Put{20, 0}}, {20, trial.Put{2, tagged(2, 3)}}, {23, trial.Put{2, tagged(0, 4)}},
	}
	for most := range 30 {
		x, a := play(t, three, words, hands, []int{4}, most)
		want, answers := slices.Clone(words), []api.Answer{}
		for _, c := range changes {
			if most >= c.behind {
				want[c.put[0]] = c.put[1]
			}
		}
		if most >= 10 {
			answers = append(answers, told(1))
		}
		if most >= 27 {
			answers = append(answers, told(2))
		}
		if x.Ended != (most >= 27) || len(x.Steps) != min(most, 27) || !slices.Equal(x.Words, want) || !trial.SameAnswers(a, [][]api.Answer{nil, answers, nil}) {
			t.Error(most, x, a, want)
		}
	}
	from := trial.Source(13)
	for most := range 80 {
		play(t, three, words, [][]api.Job{{roots(1), drain(1)}, {roots(1)}, nil, {drain(1), roots(0)}}, from.Schedule(60), most)
	}
}

// Schedules that are empty, shorter than the run, just as long, and longer.
func TestP20_1_Schedules(t *testing.T) {
	from := trial.Source(14)
	long := from.Schedule(120)
	words := puts(memory(tagged(3, 1), cell{1, 9}, cell{1, 9}, cell{3, 0}), 10, 1, 13, 2, 3, 2, 17, 3, 18, 2, 22, 1, 23, 2, 27, 1, 28, 0)
	for n := range len(long) {
		hands := [][]api.Job{{roots(1), drain(1)}, nil, {drain(1)}, {}, {roots(1)}}
		if x, _ := play(t, three, words, hands, long[:n], api.MaxSteps); !x.Ended {
			t.Error(n, x)
		}
	}
}

// At the limits: the greatest shape, 8 hands with 256 jobs each, a schedule and most of 65536.
func TestP20_1_AtTheLimits(t *testing.T) {
	from := trial.Source(15)
	sh := api.Shape{Objects: api.MaxObjects, Slots: api.MaxSlots, Hands: api.MaxHands - 1, Roots: api.MaxRoots, Weaks: api.MaxWeaks}
	words := readyWords(t, &from, sh, 1)
	every := slices.Repeat([]api.Job{drain(1)}, api.MaxJobs)
	hands := slices.Repeat([][]api.Job{every}, api.MaxHands)
	hands[7] = append([]api.Job{roots(1)}, every[1:]...)
	x, _ := play(t, sh, words, hands, from.Schedule(api.MaxSteps), api.MaxSteps)
	if !x.Ended || len(x.Steps) < 8*256 {
		t.Error(x.Ended, len(x.Steps))
	}
	for h := range hands {
		hands[h] = slices.Repeat([]api.Job{roots(1)}, api.MaxJobs)
	}
	if x, _ = play(t, sh, words, hands, from.Schedule(api.MaxSteps), api.MaxSteps); x.Ended || len(x.Steps) != api.MaxSteps {
		t.Error(x.Ended, len(x.Steps))
	}
}
