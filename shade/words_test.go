package shade_test

import (
	"slices"
	"testing"

	"midden/api"
	"midden/shade"
	"midden/shape"
	"midden/trial"
)

// A count is how often each kind of thing comes in runs.
type count struct {
	ended, amid                          int // runs
	won, refused, taken, noneLeft, noOne int // jobs
	headsLost, marksLost, pullsLost      int // CAS that were not done
}

func (c *count) add(sh api.Shape, hands [][]api.Job, x api.Trace, a [][]api.Answer) {
	if x.Ended {
		c.ended++
	} else {
		c.amid++
	}
	number := make([]int, len(hands))
	for _, s := range x.Steps {
		j := hands[s.Hand][min(number[s.Hand], len(hands[s.Hand])-1)]
		isLost := s.Act == api.CAS && !s.OK
		switch {
		case isLost && s.At != api.Grey:
			c.headsLost++
		case isLost && j.Kind == shade.Shade:
			c.marksLost++
		case isLost:
			c.pullsLost++
		case s.At == api.Grey && s.Act == api.Load && j.Kind == shade.Next && trial.Number(s.Had) > sh.Objects:
			c.noOne++
		}
		if endsJob(sh, j, s) {
			number[s.Hand]++
		}
	}
	for h, jobs := range hands {
		for k, told := range a[h] {
			switch isMark := jobs[k].Kind == shade.Shade; {
			case isMark && told.OK:
				c.won++
			case isMark:
				c.refused++
			case told.OK:
				c.taken++
			default:
				c.noneLeft++
			}
		}
	}
}

// endsJob: is this step the job's last one?
func endsJob(sh api.Shape, j api.Job, s api.Step) bool {
	isLoad := s.Act == api.Load
	switch {
	case s.At == api.Grey && s.Act == api.CAS:
		return s.OK
	case j.Kind == shade.Next:
		return s.At == api.Grey && isLoad && trial.HeadAt(sh, trial.Number(s.Had)) < 0
	}
	return isLoad && s.At != api.Grey && !trial.White(s.Had, trial.Upper(j.H), j.C)
}

func (c *count) least() int {
	return min(c.ended, c.amid, c.won, c.refused, c.taken, c.noneLeft, c.noOne, c.headsLost, c.marksLost, c.pullsLost)
}

// Any words, jobs of both colours, any schedules.
func TestP16_1_AnyWordsByModel(t *testing.T) {
	from := trial.Source(11)
	var c count
	for range 20000 {
		sh := from.SmallShape()
		words := anyWords(&from, sh)
		hands := anyJobs(&from, sh, words, both, from.Below(api.MaxHands+1), 6)
		x, a := play(t, sh, words, hands, from.Schedule(from.Below(100)), from.Below(250))
		c.add(sh, hands, x, a)
	}
	if c.least() < 500 {
		t.Errorf("something comes too seldom: %+v", c)
	}
}

// Fresh memories: nothing is in use, so nothing is shaded; and nothing waits.
func TestP16_1_FreshMemories(t *testing.T) {
	for _, sh := range trial.RightShapes() {
		words, _ := shape.Fresh(sh)
		var jobs []api.Job
		for number := range sh.Objects + 2 {
			jobs = append(jobs, mark(uint64(number), 0), mark(uint64(number), 1))
		}
		x, a := play(t, sh, words, [][]api.Job{append(jobs, next), {next, next}}, nil, api.MaxSteps)
		if !x.Ended || !slices.Equal(x.Words, words) || len(x.Steps) != len(jobs)+3 || slices.Contains(slices.Concat(a...), trial.Told(1)) {
			t.Errorf("%+v: %v %v", sh, x, a)
		}
		for _, told := range slices.Concat(a...) {
			if told != (api.Answer{}) {
				t.Errorf("%+v: %v", sh, a)
			}
		}
	}
}

// Memories that runs of the layers below leave: heaps, and acts of any kind at any word.
func TestP16_1_MemoriesOfRuns(t *testing.T) {
	from := trial.Source(12)
	var c count
	for range 2000 {
		sh := from.Shape()
		words := from.Ran(sh)
		if from.Below(3) == 0 {
			words = from.Acted(sh, words)
		}
		hands := anyJobs(&from, sh, words, both, from.Below(api.MaxHands+1), 10)
		x, a := play(t, sh, words, hands, from.Schedule(from.Below(100)), from.Below(400))
		c.add(sh, hands, x, a)
		// A run goes on where another one was left.
		again := anyJobs(&from, sh, x.Words, both, 3, 6)
		y, b := play(t, sh, x.Words, again, from.Schedule(40), 200)
		c.add(sh, again, y, b)
	}
	c.noOne = max(c.noOne, 100) // that is by hand alone
	if c.least() < 100 {
		t.Errorf("something comes too seldom: %+v", c)
	}
}

// most in the middle of a job: what it has done so far stands in the words, and no answer is told; most of 0 does nothing.
func TestP16_1_MostInTheMiddle(t *testing.T) {
	words := memory(three, tagged(3, 1), cell{1, 9}, cell{1, 9}, cell{3, 0})
	hands := [][]api.Job{nil, {mark(2, 1), next, mark(2, 1)}, {}}
	ends := []int{5, 8, 9}
	all := []api.Answer{trial.Told(2), trial.Told(2), {}}
	for most := range 12 {
		x, a := play(t, three, words, hands, []int{4}, most)
		told, want := 0, slices.Clone(words)
		for told < len(ends) && ends[told] <= most {
			told++
		}
		if most >= 2 {
			want[14] = 3
		}
		if most >= 4 {
			want[15] = 3
		}
		if most >= 5 {
			want[2] = tagged(2, 2)
		}
		if most >= 8 {
			want[2] = tagged(3, 3)
		}
		if x.Ended != (most >= 9) || len(x.Steps) != min(most, 9) || !slices.Equal(x.Words, want) || !trial.SameAnswers(a, [][]api.Answer{nil, all[:told], nil}) {
			t.Error(most, x, a, want)
		}
	}
	from := trial.Source(13)
	for most := range 80 {
		play(t, three, words, [][]api.Job{{mark(1, 1), next, mark(2, 1)}, {next, mark(1, 1)}, nil, {mark(2, 1), next}}, from.Schedule(40), most)
	}
}

// Schedules that are empty, shorter than the run, just as long, and longer.
func TestP16_1_Schedules(t *testing.T) {
	from := trial.Source(14)
	long := from.Schedule(80)
	words := memory(three, tagged(3, 1), cell{1, 9}, cell{1, 9}, cell{3, 0})
	for n := range len(long) {
		holdWhole(t, three, words, 1, [][]api.Job{{mark(1, 1), next, mark(2, 1)}, nil, {next, mark(1, 1)}, {}, {mark(2, 1), next}}, long[:n])
	}
}

// At the limits: the greatest shape, 8 hands with 256 jobs each, a schedule and most of 65536.
func TestP16_1_AtTheLimits(t *testing.T) {
	from := trial.Source(15)
	sh := api.Shape{Objects: api.MaxObjects, Slots: api.MaxSlots, Hands: api.MaxHands - 1, Roots: api.MaxRoots, Weaks: api.MaxWeaks}
	words := memory(sh, tagged(0, half-50))
	for number := 1; number <= sh.Objects; number++ {
		words[trial.HeadAt(sh, number)] = half + 1
	}
	hands := make([][]api.Job, api.MaxHands)
	for h := range hands {
		for range api.MaxJobs {
			j := mark(tagged(1+from.Below(sh.Objects), 1), from.Below(2))
			if from.Below(4) == 0 {
				j = next
			}
			hands[h] = append(hands[h], j)
		}
	}
	x, _ := play(t, sh, words, hands, from.Schedule(api.MaxSteps), api.MaxSteps)
	if !x.Ended || len(x.Steps) < 2000 {
		t.Error(x.Ended, len(x.Steps))
	}
	for h := range hands {
		hands[h] = slices.Repeat([]api.Job{next}, api.MaxJobs)
		for i := range sh.Objects {
			hands[h][i+h] = mark(tagged(1+i, 1), 1)
		}
	}
	holdWhole(t, sh, words, 1, hands, from.Schedule(api.MaxSteps))
}
