package sweep_test

import (
	"slices"
	"testing"

	"midden/api"
	"midden/shape"
	"midden/trial"
)

// A tally is how often each kind of thing comes in runs.
type tally struct {
	ended, amid           int // runs
	none, some            int // Passes that have given nothing back, and that have
	grown, given, forGood int // objects; those of the last generation
	old                   int // looks at objects that have the greatest age
	headsLost, freesLost  int // CAS that were not done
	zero, one             int // Passes of each colour
}

func (c *tally) add(sh api.Shape, hands [][]api.Job, x api.Trace, a [][]api.Answer) {
	if x.Ended {
		c.ended++
	} else {
		c.amid++
	}
	for h, answers := range a {
		for k, told := range answers {
			if told.Val > 0 {
				c.some++
			} else {
				c.none++
			}
			c.zero += 1 - hands[h][k].C
			c.one += hands[h][k].C
		}
	}
	kind := kinds(sh)
	for _, s := range x.Steps {
		isHead := kind[s.At] == aHead
		switch {
		case isHead && s.Act == api.CAS && s.OK:
			c.grown++
		case isHead && s.Act == api.CAS:
			c.headsLost++
		case isHead && s.Act == api.Store && s.Put == last*half && trial.Upper(s.Had) == last:
			c.forGood++
		case isHead && s.Act == api.Store:
			c.given++
		case isHead && isUsed(s.Had) && ageOf(s.Had) == 255:
			c.old++
		case s.Act == api.CAS && !s.OK:
			c.freesLost++
		}
	}
}

func (c *tally) least() int {
	return min(c.ended, c.amid, c.none, c.some, c.grown, c.given, c.forGood, c.old, c.headsLost, c.freesLost, c.zero, c.one)
}

// Any words, jobs of both colours, any schedules.
func TestP21_1_AnyWordsByModel(t *testing.T) {
	from := trial.Source(11)
	var c tally
	for range 6000 {
		sh := from.SmallShape()
		words := anyWords(&from, sh)
		hands := anyJobs(&from, both, from.Below(api.MaxHands+1), 5)
		x, a := play(t, sh, words, hands, from.Schedule(from.Below(150)), from.Below(400))
		c.add(sh, hands, x, a)
	}
	if c.least() < 500 {
		t.Errorf("something comes too seldom: %+v", c)
	}
}

// Fresh memories: nothing is in use, so each head is looked at, and nothing changes.
func TestP21_1_FreshMemories(t *testing.T) {
	for _, sh := range trial.RightShapes() {
		words, _ := shape.Fresh(sh)
		x, a := play(t, sh, words, [][]api.Job{nil, {pass(0), pass(1)}, nil}, nil, api.MaxSteps)
		if !x.Ended || !slices.Equal(x.Words, words) || len(x.Steps) != 2*sh.Objects || !slices.Equal(a[1], []api.Answer{told(0), told(0)}) {
			t.Errorf("%+v: %v %v", sh, x, a)
		}
	}
}

// Memories that runs of the layers below leave: heaps, and acts of any kind at any word.
func TestP21_1_MemoriesOfRuns(t *testing.T) {
	from := trial.Source(12)
	var c tally
	for range 1500 {
		sh := from.Shape()
		words := from.Ran(sh)
		if from.Below(3) == 0 {
			words = from.Acted(sh, words)
		}
		hands := anyJobs(&from, both, from.Below(api.MaxHands+1), 5)
		x, a := play(t, sh, words, hands, from.Schedule(from.Below(150)), from.Below(500))
		c.add(sh, hands, x, a)
		// A run goes on where another one was left.
		more := anyJobs(&from, both, 3, 5)
		y, b := play(t, sh, x.Words, more, from.Schedule(40), 300)
		c.add(sh, more, y, b)
	}
	c.old = max(c.old, 200) // such runs make none so old
	if c.least() < 200 {
		t.Errorf("something comes too seldom: %+v", c)
	}
}

// most in the middle of a job: what it has done so far stands in the words, and no answer is told; most of 0 does nothing.
func TestP21_1_MostInTheMiddle(t *testing.T) {
	words := memory(three, tagged(2, 1), cell{3, 7}, cell{4 * half, 8}, cell{half + 1, 9})
	hands := [][]api.Job{nil, {pass(1), pass(1)}, {}}
	all := []api.Answer{told(1), told(0)}
	changes := []trial.Put{ // what each step puts
		{10, 3}, {10, 0x103}, {15, 4 * half},
		{20, half + 1}, {23, 0}, {24, 0}, {20, half + 1}, {20, 2 * half}, {1, tagged(2, 1)}, {21, 2}, {1, tagged(3, 2)}, {5, 1006},
		{10, 0x103}, {10, 0x203}, {15, 4 * half}, {20, 2 * half},
	}
	for most := range 22 {
		x, a := play(t, three, words, hands, []int{4}, most)
		made := min(most, len(changes))
		ends, want := 0, slices.Clone(words)
		for _, put := range changes[:made] {
			want[put[0]] = put[1]
		}
		for _, end := range []int{12, 16} {
			if most >= end {
				ends++
			}
		}
		if x.Ended != (most >= 16) || len(x.Steps) != made || !slices.Equal(x.Words, want) || !trial.SameAnswers(a, [][]api.Answer{nil, all[:ends], nil}) {
			t.Error(most, x, a, want)
		}
	}
	from := trial.Source(13)
	for most := range 100 {
		play(t, three, words, [][]api.Job{{pass(1), pass(0)}, {pass(1)}, nil, {pass(0), pass(1)}}, from.Schedule(60), most)
	}
}

// Schedules that are empty, shorter than the run, just as long, and longer.
func TestP21_1_Schedules(t *testing.T) {
	from := trial.Source(14)
	long := from.Schedule(120)
	words := memory(three, tagged(2, last), cell{3, 7}, cell{4 * half, 0}, cell{0xff01, 9})
	for n := range len(long) {
		hands := [][]api.Job{{pass(1), pass(1)}, nil, {pass(1)}, {}, {pass(0)}}
		if x, _ := play(t, three, words, hands, long[:n], api.MaxSteps); !x.Ended {
			t.Error(n, x)
		}
	}
}

// At the limits: the greatest shape, 8 hands with 256 jobs each, a schedule and most of 65536.
func TestP21_1_AtTheLimits(t *testing.T) {
	from := trial.Source(15)
	sh := api.Shape{Objects: api.MaxObjects, Slots: api.MaxSlots, Hands: api.MaxHands - 1, Roots: api.MaxRoots, Weaks: api.MaxWeaks}
	words := anyWords(&from, sh)
	hands := slices.Repeat([][]api.Job{slices.Repeat([]api.Job{pass(1)}, api.MaxJobs)}, api.MaxHands)
	x, _ := play(t, sh, words, hands, from.Schedule(api.MaxSteps), api.MaxSteps)
	if x.Ended || len(x.Steps) != api.MaxSteps {
		t.Error(x.Ended, len(x.Steps))
	}
	least := api.Shape{Objects: 1, Hands: 1, Roots: 1}
	words = memory(least, 0, cell{3, 7})
	x, a := play(t, least, words, hands, from.Schedule(api.MaxSteps), api.MaxSteps)
	if !x.Ended || ageOf(x.Words[10]) != 255 || len(a[7]) != api.MaxJobs || len(x.Steps) < api.MaxHands*api.MaxJobs {
		t.Error(x.Ended, len(x.Steps), x.Words)
	}
}
