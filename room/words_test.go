package room_test

import (
	"slices"
	"testing"

	"midden/api"
	"midden/room"
	"midden/trial"
)

// A count is how often each kind of thing comes in runs.
type count struct {
	ended, amid                    int // runs
	made, empty, past, given, last int // jobs: no object is left; Free shows a number past them; the last generation
	makesLost, givesLost           int // CAS that were not done
}

func (c *count) add(sh api.Shape, hands [][]api.Job, x api.Trace) {
	if x.Ended {
		c.ended++
	} else {
		c.amid++
	}
	number, turned := make([]int, len(hands)), make([]bool, len(hands))
	for _, s := range x.Steps {
		h := s.Hand
		j := hands[h][number[h]]
		isEnd, isAlloc := endsJob(sh, j, s), j.Kind == room.Alloc
		switch isCAS := s.Act == api.CAS; {
		case isCAS && s.OK:
			turned[h] = true
		case isCAS && isAlloc:
			c.makesLost++
		case isCAS:
			c.givesLost++
		case !isEnd:
		case isAlloc && s.Act == api.Add:
			c.made++
		case isAlloc && trial.Number(s.Had) == 0:
			c.empty++
		case isAlloc:
			c.past++
		case turned[h]:
			c.given++
		default:
			c.last++
		}
		if isEnd {
			number[h]++
			turned[h] = false
		}
	}
}

func (c *count) least() int {
	return min(c.ended, c.amid, c.made, c.empty, c.past, c.given, c.last, c.makesLost, c.givesLost)
}

// Any words, jobs of both kinds, any schedules.
func TestP17_1_AnyWordsByModel(t *testing.T) {
	from := trial.Source(11)
	var c count
	for range 20000 {
		sh := from.SmallShape()
		words := anyWords(&from, sh)
		hands := anyJobs(&from, sh, from.Below(api.MaxHands+1), 6)
		x, _ := play(t, sh, words, hands, from.Schedule(from.Below(100)), from.Below(300))
		c.add(sh, hands, x)
	}
	if c.least() < 500 {
		t.Errorf("something comes too seldom: %+v", c)
	}
}

// Fresh memories: each object is made, by rising number, and then none; and all that are given back come again, the last first.
func TestP17_1_FreshMemories(t *testing.T) {
	for _, sh := range trial.RightShapes() {
		jobs := slices.Repeat([]api.Job{alloc}, sh.Objects+1)
		var want []api.Answer
		for number := 1; number <= sh.Objects; number++ {
			want = append(want, trial.Told(uint64(number)))
			jobs = append(jobs, back(number))
		}
		want = append(want, api.Answer{})
		for number := 1; number <= sh.Objects; number++ {
			want = append(want, trial.Told(uint64(number)))
		}
		for number := sh.Objects; number > 0; number-- {
			want = append(want, trial.Told(tagged(number, 1)))
			jobs = append(jobs, alloc)
		}
		x, a := play(t, sh, fresh(t, sh), [][]api.Job{nil, jobs}, nil, api.MaxSteps)
		if !x.Ended || !slices.Equal(a[1], want) || x.Words[api.Allocated] != uint64(2*sh.Objects) || x.Words[api.Freed] != uint64(sh.Objects) {
			t.Errorf("%+v: %v %v", sh, x, a)
		}
	}
}

// Memories that runs of the layers below leave: heaps, and acts of any kind at any word.
func TestP17_1_MemoriesOfRuns(t *testing.T) {
	from := trial.Source(12)
	var c count
	for range 2000 {
		sh := from.Shape()
		words := from.Ran(sh)
		if from.Below(3) == 0 {
			words = from.Acted(sh, words)
		}
		hands := anyJobs(&from, sh, from.Below(api.MaxHands+1), 10)
		x, _ := play(t, sh, words, hands, from.Schedule(from.Below(100)), from.Below(400))
		c.add(sh, hands, x)
		// A run goes on where another one was left.
		again := anyJobs(&from, sh, 3, 6)
		y, _ := play(t, sh, x.Words, again, from.Schedule(40), 200)
		c.add(sh, again, y)
	}
	c.past = max(c.past, 100) // that is by hand alone
	if c.least() < 100 {
		t.Errorf("something comes too seldom: %+v", c)
	}
}

// most in the middle of a job: what it has done so far stands in the words, and no answer is told; most of 0 does nothing.
func TestP17_1_MostInTheMiddle(t *testing.T) {
	words := memory(three, tagged(2, 1), cell{1, 9}, cell{3 * half, 3}, cell{0, 0})
	hands := [][]api.Job{nil, {allocOf(1, 0), back(1)}, {}}
	all := []api.Answer{trial.Told(3*half + 2), trial.Told(1)}
	puts := []struct { // what each step puts
		at int
		v  uint64
	}{
		{1, tagged(2, 1)}, {16, 3}, {1, tagged(3, 2)}, {15, 3 * half}, {15, 3*half + 5}, {4, 1005},
		{13, 0}, {14, 0}, {10, 1}, {10, half}, {1, tagged(3, 2)}, {11, 3}, {1, tagged(1, 3)}, {5, 1006},
	}
	for most := range 20 {
		x, a := play(t, three, words, hands, []int{4}, most)
		made := min(most, len(puts))
		told, want := 0, slices.Clone(words)
		for _, p := range puts[:made] {
			want[p.at] = p.v
		}
		for _, end := range []int{6, 14} {
			if most >= end {
				told++
			}
		}
		if x.Ended != (most >= 14) || len(x.Steps) != made || !slices.Equal(x.Words, want) || !trial.SameAnswers(a, [][]api.Answer{nil, all[:told], nil}) {
			t.Error(most, x, a, want)
		}
	}
	from := trial.Source(13)
	for most := range 100 {
		play(t, three, words, [][]api.Job{{alloc, back(2), alloc}, {back(1), alloc}, nil, {allocOf(1, 1), back(3)}}, from.Schedule(40), most)
	}
}

// Schedules that are empty, shorter than the run, just as long, and longer.
func TestP17_1_Schedules(t *testing.T) {
	from := trial.Source(14)
	long := from.Schedule(100)
	for n := range len(long) {
		hands := proper(t, &from, three, fresh(t, three), [][]api.Job{{alloc, back(1), alloc}, nil, {alloc, alloc, back(2)}, {}, {alloc, back(3)}}, long[:n])
		holdOwned(t, three, hands, long[:n], api.MaxSteps)
	}
}

// At the limits: the greatest shape, 8 hands with 256 jobs each, a schedule and most of 65536.
func TestP17_1_AtTheLimits(t *testing.T) {
	from := trial.Source(15)
	sh := api.Shape{Objects: api.MaxObjects, Slots: api.MaxSlots, Hands: api.MaxHands - 1, Roots: api.MaxRoots, Weaks: api.MaxWeaks}
	words := with(fresh(t, sh), api.Free, tagged(1, half-50))
	hands := make([][]api.Job, api.MaxHands)
	for h := range hands {
		for range api.MaxJobs {
			j := allocOf(from.Below(2), from.Below(2))
			if from.Below(2) == 0 {
				j = back(1 + from.Below(sh.Objects))
			}
			hands[h] = append(hands[h], j)
		}
	}
	x, _ := play(t, sh, words, hands, from.Schedule(api.MaxSteps), api.MaxSteps)
	if !x.Ended || len(x.Steps) < 10000 {
		t.Error(x.Ended, len(x.Steps))
	}
	// One hand behind the other makes eight objects, and then gives one back and makes it again, as often as it may.
	for h := range hands {
		hands[h] = slices.Repeat([]api.Job{alloc}, 8)
		for i := 0; len(hands[h]) < api.MaxJobs; i++ {
			hands[h] = append(hands[h], back(8*h+1+i%8), allocOf(i%2, i/2%2))
		}
	}
	x, _ = holdOwned(t, sh, hands, make([]int, api.MaxSteps), api.MaxSteps)
	if !x.Ended || x.Words[api.Freed] != 8*124 {
		t.Error(x.Ended, x.Words)
	}
}
