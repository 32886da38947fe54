package final_test

import (
	"slices"
	"testing"

	"midden/api"
	"midden/final"
	"midden/shape"
	"midden/trial"
)

// A tally is how often each kind of thing comes in runs.
type tally struct {
	ended, amid            int // runs
	cleared, left          int // Clears that have wiped something, and that haven't
	called, idle           int // Calls that have taken something, and that haven't
	drawn, nothing         int // Dues
	weaksLost, headsLost   int // CAS that were not done; of the heads, those that were to take an object, or to shade it
	greysLost, queuesLost  int
	wiped, taken, queued   int // acts that were done
	shaded, rested, passed int // objects that were shaded; loads of slots; loads of the phase
}

func (c *tally) add(sh api.Shape, hands [][]api.Job, x api.Trace, a [][]api.Answer) {
	if x.Ended {
		c.ended++
	} else {
		c.amid++
	}
	for h, answers := range a {
		for k, told := range answers {
			c.addAnswer(hands[h][k].Kind, told)
		}
	}
	kind := kinds(sh)
	for _, s := range x.Steps {
		c.addStep(kind[s.At], s)
	}
}

func (c *tally) addAnswer(kind int, told api.Answer) {
	n := map[int][2]*int{final.Clear: {&c.left, &c.cleared}, final.Call: {&c.idle, &c.called}, final.Due: {&c.nothing, &c.drawn}}[kind]
	isSome := told.OK && told.Val > 0
	if isSome {
		*n[1]++
	} else {
		*n[0]++
	}
}

func (c *tally) addStep(kind int, s api.Step) {
	isCAS := s.Act == api.CAS
	switch {
	case s.At == api.Phase:
		c.passed++
	case kind == another:
		c.rested++
	case kind == aWeak && isCAS:
		count(s.OK, &c.wiped, &c.weaksLost)
	case kind == aHead && isCAS && s.OK && s.Put == s.Had^2:
		c.shaded++
	case kind == aHead && isCAS:
		count(s.OK, &c.taken, &c.headsLost)
	case s.At == api.Grey && isCAS && !s.OK:
		c.greysLost++
	case s.At == api.Queue && isCAS && !s.OK:
		c.queuesLost++
	case kind == theQueued:
		c.queued++
	}
}

func count(isDone bool, done, lost *int) {
	if isDone {
		*done++
	} else {
		*lost++
	}
}

func (c *tally) least() int {
	return slices.Min([]int{
		c.ended, c.amid, c.cleared, c.left, c.called, c.idle, c.drawn, c.nothing, c.weaksLost, c.headsLost, c.greysLost, c.queuesLost, c.wiped,
		c.taken, c.queued, c.shaded, c.rested, c.passed,
	})
}

// Any words, jobs of both colours, any schedules.
func TestP22_1_AnyWordsByModel(t *testing.T) {
	from := trial.Source(11)
	var c tally
	for range 8000 {
		sh := from.SmallShape()
		words := anyWords(&from, sh)
		hands := anyJobs(&from, both, from.Below(api.MaxHands+1), 5)
		x, a := play(t, sh, words, hands, from.Schedule(from.Below(150)), from.Below(400))
		c.add(sh, hands, x, a)
	}
	if c.least() < 500 {
		t.Errorf("something comes too seldom: %+v", c)
	}
}

// Fresh memories: nothing is in use, and so nothing changes.
func TestP22_1_FreshMemories(t *testing.T) {
	for _, sh := range trial.RightShapes() {
		words, _ := shape.Fresh(sh)
		x, a := play(t, sh, words, [][]api.Job{nil, {clearOf(0), clearOf(1), callOf(0), callOf(1), due}, nil}, nil, api.MaxSteps)
		all := []api.Answer{told(0), told(0), told(0), told(0), none}
		if !x.Ended || !slices.Equal(x.Words, words) || len(x.Steps) != 2*max(sh.Weaks, 1)+2*(sh.Objects+1)+1 || !slices.Equal(a[1], all) {
			t.Errorf("%+v: %v %v", sh, x, a)
		}
	}
}

// Memories that runs of the layers below leave: heaps, and acts of any kind at any word.
func TestP22_1_MemoriesOfRuns(t *testing.T) {
	from := trial.Source(12)
	var c tally
	for range 1500 {
		sh := from.Shape()
		words := from.Ran(sh)
		if from.Below(3) == 0 {
			words = from.Acted(sh, words)
		}
		for weak := range sh.Weaks {
			if at := trial.WeakAt(sh, weak); words[at] == 0 && from.Below(3) > 0 {
				words[at] = from.Handle(trial.ObjectsIn(sh, words))
			}
		}
		hands := anyJobs(&from, both, from.Below(api.MaxHands+1), 5)
		x, a := play(t, sh, words, hands, from.Schedule(from.Below(150)), from.Below(500))
		c.add(sh, hands, x, a)
		// A run goes on where another one was left.
		more := anyJobs(&from, both, 3, 5)
		y, b := play(t, sh, x.Words, more, from.Schedule(40), 300)
		c.add(sh, more, y, b)
	}
	if c.least() < 100 {
		t.Errorf("something comes too seldom: %+v", c)
	}
}

// most in the middle of a job: what it has done so far stands in the words, and no answer is told; most of 0 does nothing.
func TestP22_1_MostInTheMiddle(t *testing.T) {
	words := puts(memory(three, cell{half + 5, 7}, cell{3, 8}, cell{1, 9}), 10, 3, 11, 2, 15, 3, 19, 0, 23, 0)
	hands := [][]api.Job{nil, {clearOf(1), callOf(1), due}, {}}
	changes := []trial.Put{ // what each step puts
		{10, 3}, {20, 1}, {10, 0}, {11, 2}, {16, 3},
		{12, half + 5}, {12, half + 15}, {2, 0}, {13, 0}, {2, tagged(1, 1)}, {16, 3}, {20, 1},
		{2, tagged(1, 1)}, {13, 0}, {2, tagged(0, 2)}, {15, 3}, {20, 1}, {20, 3}, {2, tagged(0, 2)}, {21, 0}, {2, tagged(3, 3)},
		{2, tagged(3, 3)}, {21, 0}, {2, tagged(0, 4)}, {23, 0}, {2, tagged(0, 4)},
		{3, 0}, {14, 0}, {3, tagged(1, 1)}, {6, 1007},
		{3, tagged(1, 1)}, {14, 0}, {3, tagged(0, 2)}, {12, half + 15},
	}
	all := []api.Answer{told(1), told(1), told(half + 1)}
	for most := range len(changes) + 5 {
		x, a := play(t, three, words, hands, []int{4}, most)
		made := min(most, len(changes))
		ends, want := 0, slices.Clone(words)
		for _, put := range changes[:made] {
			want[put[0]] = put[1]
		}
		for _, end := range []int{5, 30, len(changes)} {
			if most >= end {
				ends++
			}
		}
		if x.Ended != (ends == 3) || len(x.Steps) != made || !slices.Equal(x.Words, want) || !trial.SameAnswers(a, [][]api.Answer{nil, all[:ends], nil}) {
			t.Error(most, x, a, want)
		}
	}
	from := trial.Source(13)
	for most := range 100 {
		play(t, three, words, [][]api.Job{{clearOf(1), callOf(1)}, {callOf(1), due}, nil, {callOf(0), due}}, from.Schedule(60), most)
	}
}

// Schedules that are empty, shorter than the run, just as long, and longer.
func TestP22_1_Schedules(t *testing.T) {
	from := trial.Source(14)
	long := from.Schedule(120)
	words := puts(memory(three, cell{5, 7}, cell{7, 8}, cell{1, 9}), 10, 1, 11, 3, 15, 3, 19, 1, 23, 0)
	for n := range len(long) {
		hands := [][]api.Job{{clearOf(1), callOf(1)}, nil, {callOf(1), due}, {}, {due, clearOf(0)}}
		if x, _ := play(t, three, words, hands, long[:n], api.MaxSteps); !x.Ended {
			t.Error(n, x)
		}
	}
}

// At the limits: the greatest shape, 8 hands with 256 jobs each, a schedule and most of 65536.
func TestP22_1_AtTheLimits(t *testing.T) {
	from := trial.Source(15)
	sh := api.Shape{Objects: api.MaxObjects, Slots: api.MaxSlots, Hands: api.MaxHands - 1, Roots: api.MaxRoots, Weaks: api.MaxWeaks}
	words := readyWords(&from, sh, 1)
	hands := make([][]api.Job, api.MaxHands)
	for h := range hands {
		hands[h] = slices.Repeat([]api.Job{[]api.Job{clearOf(1), callOf(1), due}[h%3]}, api.MaxJobs)
	}
	x, _ := play(t, sh, words, hands, from.Schedule(api.MaxSteps), api.MaxSteps)
	if x.Ended || len(x.Steps) != api.MaxSteps {
		t.Error(x.Ended, len(x.Steps))
	}
	least := api.Shape{Objects: 1, Hands: 1, Roots: 1}
	words = memory(least, cell{5, 7})
	x, a := play(t, least, words, hands, from.Schedule(api.MaxSteps), api.MaxSteps)
	if !x.Ended || x.Words[10] != 15 || x.Words[api.Queued] != 1007 || len(a[7]) != api.MaxJobs || len(x.Steps) < api.MaxHands*api.MaxJobs {
		t.Error(x.Ended, len(x.Steps), x.Words)
	}
}
