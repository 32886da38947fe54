package store_test

import (
	"slices"
	"testing"

	"midden/api"
	"midden/shape"
	"midden/trial"
)

// A count is how often each kind of thing comes in runs.
type count struct {
	ended, amid                   int // runs
	bare, empty, first, own, both int // jobs: without the barrier; with it, by what stood there and what is stored, each 0 or not
	shaded                        int // objects
	overwritten                   int // stores over something else than what was loaded
	headsLost, greysLost          int // CAS that were not done
}

func (c *count) add(t *testing.T, sh api.Shape, hands [][]api.Job, x api.Trace, a [][]api.Answer) {
	t.Helper()
	if x.Ended {
		c.ended++
	} else {
		c.amid++
	}
	trial.HoldFollowed(t, x, hands, a, func(j *trial.Job, s api.Step) string {
		switch isCAS := s.Act == api.CAS; {
		case isCAS && s.At == api.Grey && s.OK:
			c.shaded++
		case isCAS && s.At == api.Grey:
			c.greysLost++
		case isCAS && !s.OK:
			c.headsLost++
		case s.Act == api.Store && s.At == placeOf(sh, j.Hand, j.Job):
			c.addJob(j, s)
			j.End(told)
		}
		if j.Steps == 1 {
			j.Note = s.Had
		}
		return ""
	})
}

// addJob: a job whose last step this is. What it has loaded is its note.
func (c *count) addJob(j *trial.Job, s api.Step) {
	switch {
	case j.C == bare:
		c.bare++
		return
	case j.Note == 0 && j.H == 0:
		c.empty++
	case j.H == 0:
		c.first++
	case j.Note == 0:
		c.own++
	default:
		c.both++
	}
	if s.Had != j.Note {
		c.overwritten++
	}
}

func (c *count) least() int {
	return min(c.ended, c.amid, c.bare, c.empty, c.first, c.own, c.both, c.shaded, c.overwritten, c.headsLost, c.greysLost)
}

// Any words, jobs of both colours and without the barrier, any schedules.
func TestP18_1_AnyWordsByModel(t *testing.T) {
	from := trial.Source(11)
	var c count
	for range 15000 {
		sh := from.SmallShape()
		words := anyWords(&from, sh)
		hands := anyJobs(&from, sh, words, allBars, from.Below(api.MaxHands+1), 6)
		x, a := play(t, sh, words, hands, from.Schedule(from.Below(100)), from.Below(300))
		c.add(t, sh, hands, x, a)
	}
	if c.least() < 500 {
		t.Errorf("something comes too seldom: %+v", c)
	}
}

// Fresh memories: nothing is in use, so nothing is shaded, and the words hold what was stored last.
func TestP18_1_FreshMemories(t *testing.T) {
	for _, sh := range trial.RightShapes() {
		words, _ := shape.Fresh(sh)
		var jobs []api.Job
		want := slices.Clone(words)
		steps := 0
		for root := range sh.Roots {
			for bar := range 3 {
				jobs = append(jobs, intoRoot(root, uint64(root+bar), bar))
			}
			want[trial.RootAt(sh, 0, root)] = uint64(root + barOne)
		}
		for number := 1; number <= min(sh.Objects, 20); number++ {
			for slot := range sh.Slots {
				jobs = append(jobs, intoSlot(number, slot, uint64(number), barZero), intoSlot(number, slot, uint64(number+1), barOne))
				want[trial.SlotAt(sh, number, slot)] = uint64(number + 1)
			}
		}
		x, a := play(t, sh, words, [][]api.Job{jobs}, nil, api.MaxSteps)
		for _, s := range x.Steps {
			if s.Act == api.Store {
				steps++
			}
		}
		if !x.Ended || !slices.Equal(x.Words, want) || steps != len(jobs) || !slices.Equal(a[0], slices.Repeat([]api.Answer{told}, len(jobs))) {
			t.Errorf("%+v: %v %v", sh, x, a)
		}
	}
}

// Memories that runs of the layers below leave: heaps, and acts of any kind at any word.
func TestP18_1_MemoriesOfRuns(t *testing.T) {
	from := trial.Source(12)
	var c count
	for range 2000 {
		sh := from.Shape()
		words := from.Ran(sh)
		if from.Below(3) == 0 {
			words = from.Acted(sh, words)
		}
		hands := anyJobs(&from, sh, words, allBars, from.Below(api.MaxHands+1), 10)
		x, a := play(t, sh, words, hands, from.Schedule(from.Below(100)), from.Below(500))
		c.add(t, sh, hands, x, a)
		// A run goes on where another one was left.
		again := anyJobs(&from, sh, x.Words, allBars, 3, 6)
		y, b := play(t, sh, x.Words, again, from.Schedule(40), 200)
		c.add(t, sh, again, y, b)
	}
	if c.least() < 100 {
		t.Errorf("something comes too seldom: %+v", c)
	}
}

// most in the middle of a job: what it has done so far stands in the words, and no answer is told; most of 0 does nothing.
func TestP18_1_MostInTheMiddle(t *testing.T) {
	words := puts(memory(tagged(3, 1), cell{1, 9}, cell{1, 9}, cell{3, 0}), 12, 1)
	hands := [][]api.Job{nil, {intoRoot(0, 2, barOne), intoRoot(0, 9, bare)}, {}}
	changes := []trial.Put{{14, 3}, {15, 3}, {2, tagged(1, 2)}, {19, 3}, {20, 1}, {2, tagged(2, 3)}, {12, 2}, {12, 9}}
	behind := []int{3, 5, 6, 8, 10, 11, 12, 13} // so many steps
	for most := range 16 {
		x, a := play(t, three, words, hands, []int{4}, most)
		want, ended := slices.Clone(words), []api.Answer{}
		for i, p := range changes {
			if most >= behind[i] {
				want[p[0]] = p[1]
			}
		}
		for _, n := range []int{12, 13} {
			if most >= n {
				ended = append(ended, told)
			}
		}
		if x.Ended != (most >= 13) || len(x.Steps) != min(most, 13) || !slices.Equal(x.Words, want) || !trial.SameAnswers(a, [][]api.Answer{nil, ended, nil}) {
			t.Error(most, x, a, want)
		}
	}
	from := trial.Source(13)
	for most := range 80 {
		play(t, three, words, [][]api.Job{{intoSlot(1, 0, 2, barOne), intoRoot(0, 3, barOne)}, {intoRoot(0, 2, barOne)}, nil, {intoSlot(1, 0, 1, barOne)}}, from.Schedule(40), most)
	}
}

// Schedules that are empty, shorter than the run, just as long, and longer.
func TestP18_1_Schedules(t *testing.T) {
	from := trial.Source(14)
	long := from.Schedule(80)
	words := puts(memory(tagged(3, 1), cell{1, 9}, cell{1, 9}, cell{3, 0}), 10, 2, 17, 1)
	for n := range len(long) {
		hands := [][]api.Job{{intoRoot(0, 1, barOne), intoSlot(1, 0, 0, barOne)}, nil, {intoSlot(1, 0, 2, barOne)}, {}, {intoSlot(2, 1, 1, bare), intoSlot(1, 0, 3, barOne)}}
		if x, _ := play(t, three, words, hands, long[:n], api.MaxSteps); !x.Ended {
			t.Error(n, x)
		}
	}
}

// At the limits: the greatest shape, 8 hands with 256 jobs each, a schedule and most of 65536.
func TestP18_1_AtTheLimits(t *testing.T) {
	from := trial.Source(15)
	sh := api.Shape{Objects: api.MaxObjects, Slots: api.MaxSlots, Hands: api.MaxHands - 1, Roots: api.MaxRoots, Weaks: api.MaxWeaks}
	words := trial.Memory(sh, api.Grey, tagged(0, half-50))
	for number := 1; number <= sh.Objects; number++ {
		words[trial.HeadAt(sh, number)] = half + 1
	}
	hands := make([][]api.Job, api.MaxHands)
	for h := range hands {
		for i := range api.MaxJobs {
			j := intoSlot(1+from.Below(sh.Objects), from.Below(sh.Slots), tagged(1+from.Below(sh.Objects), 1), from.Below(3))
			if h < sh.Hands && i%4 == 0 {
				j = intoRoot(from.Below(sh.Roots), j.H, j.C)
			}
			hands[h] = append(hands[h], j)
		}
	}
	x, _ := play(t, sh, words, hands, from.Schedule(api.MaxSteps), api.MaxSteps)
	if !x.Ended || len(x.Steps) < 5000 {
		t.Error(x.Ended, len(x.Steps))
	}
}
