package weak_test

import (
	"slices"
	"testing"

	"midden/api"
	"midden/trial"
	"midden/weak"
)

// Every order of the steps of some hands, held to P19.2 behind each of them.
func TestP19_2_EveryOrder(t *testing.T) {
	// The weak words 0 and 1 show object 1, which is white; 2 shows object 2, which isn't.
	shows := puts(memory(0, cell{1, 9}, cell{3, 9}, cell{1, 9}), 12, 1, 13, 1, 14, 2)
	waits := puts(memory(tagged(2, half-1), cell{1, 9}, cell{3, 0}, cell{1, 9}), 12, 1, 13, 3, 14, 2)
	for _, c := range []struct {
		name  string
		words []uint64
		hands [][]api.Job
		least int // spots
		want  counts
	}{
		{"one object, two hands", shows, [][]api.Job{{see(0, api.Mark, 1)}, {see(0, api.Arm, 1)}}, 20, counts{turned: 1}},
		{"one object, two words, three hands", shows, [][]api.Job{{see(0, api.Mark, 1)}, {see(1, api.Mark, 1)}, {see(0, api.Arm, 1)}}, 100, counts{turned: 1}},
		{"two objects", waits, [][]api.Job{{see(0, api.Mark, 1)}, {see(1, api.Mark, 1)}}, 50, counts{turned: 1}},
		{"set amid", shows, [][]api.Job{{see(0, api.Mark, 1)}, {set(0, 3), set(0, 0)}, {see(0, api.Arm, 1)}}, 100, counts{turned: 1}},
		{"wiped, and turned", shows, [][]api.Job{{see(0, api.Close, 1)}, {set(0, 0), see(1, api.Mark, 1)}}, 20, counts{turned: 1, white: 1, changed: 1}},
		{"turned, and wiped", shows, [][]api.Job{{see(0, api.Close, 1)}, {see(1, api.Mark, 1), set(0, 0)}}, 20, counts{turned: 1, white: 1, closed: 1, changed: 1}},
		{"wiped, and set again", shows, [][]api.Job{{see(2, api.Close, 1)}, {set(2, 0), set(2, 2)}}, 10, counts{closed: 1, changed: 1}},
		{"another one instead", shows, [][]api.Job{{see(2, api.Close, 1), see(2, api.Close, 1)}, {set(2, 1), set(2, half+2)}}, 20, counts{white: 1, closed: 1, changed: 1}},
		{"one looks until it is turned", waits, [][]api.Job{{see(0, api.Close, 1), see(0, api.Close, 1), see(0, api.Close, 1)}, {see(0, api.Mark, 1)}}, 20, counts{turned: 1, white: 1, closed: 1}},
		{"three at one word", waits, [][]api.Job{{see(0, api.Close, 1)}, {see(0, api.Mark, 1)}, {set(0, 3), see(0, api.Idle, 1), see(0, api.Sweep, 1)}}, 100, counts{turned: 1, white: 1, closed: 1, changed: 1}},
	} {
		var sum counts
		ends := 0
		spots := everyOrder(t, three, c.words, c.hands, func(schedule []int) {
			x, a, e := weak.Play(three, c.words, c.hands, schedule, len(schedule))
			if e != api.OK {
				t.Fatal(c.name, e)
			}
			sum.add(holdLaws(t, three, c.words, 1, c.hands, x, a))
			if x.Ended {
				ends++
			}
		})
		is := counts{min(sum.turned, 1), min(sum.closed, 1), min(sum.white, 1), min(sum.changed, 1)}
		if spots < c.least || ends == 0 || is != c.want {
			t.Errorf("%s: %d %d %+v", c.name, spots, ends, sum)
		}
	}
}

// Any words, one colour, all phases. Runs that are left in the middle, too.
func TestP19_2_AnySchedule(t *testing.T) {
	from := trial.Source(31)
	var c counts
	for range 10000 {
		sh, colour := anyShape(&from), from.Below(2)
		words := anyWords(&from, sh)
		hands := anyJobs(&from, sh, words, []int{colour}, 1+from.Below(api.MaxHands), 8)
		x, a, e := weak.Play(sh, words, hands, from.Schedule(from.Below(200)), []int{api.MaxSteps, from.Below(200)}[from.Below(2)])
		if e != api.OK {
			t.Fatal(e)
		}
		c.add(holdLaws(t, sh, words, colour, hands, x, a))
	}
	if c.least() < 2000 {
		t.Errorf("something comes too seldom: %+v", c)
	}
}

// Heaps that runs of the layers below leave, whose weak words show their objects: each object that is told in Arm or Mark has the
// colour in the end, and nothing else has it that hadn't; and in Close nothing white is told.
func TestP19_2_MemoriesOfRuns(t *testing.T) {
	from := trial.Source(32)
	turned, unsure := 0, 0
	for range 1500 {
		sh := from.Shape()
		sh.Weaks = max(sh.Weaks, 2)
		words := from.Ran(sh)
		objects := objectsIn(sh, words)
		for number := range sh.Weaks {
			if which := 1 + from.Below(sh.Objects); from.Below(4) > 0 {
				words[trial.WeakAt(sh, number)] = tagged(which, objects[which-1].Gen)
			}
		}
		for _, colour := range []int{1, 0, 1} {
			hands := from.Jobs(5, 6, func() api.Job {
				return see(from.Below(sh.Weaks), []int{api.Arm, api.Mark, api.Close}[from.Below(3)], colour)
			})
			x, a := run(t, sh, words, hands, from.Schedule(from.Below(150)))
			holdLaws(t, sh, words, colour, hands, x, a)
			turned += holdTurned(t, sh, words, colour, hands, x, a)
			for _, answer := range slices.Concat(a...) {
				if !answer.OK {
					unsure++
				}
			}
			words = x.Words
		}
	}
	if turned < 1000 || unsure < 1000 {
		t.Error("too few:", turned, unsure)
	}
}

// holdTurned: by the words and answers alone. It tells how many objects have been turned.
func holdTurned(t *testing.T, sh api.Shape, words []uint64, colour int, hands [][]api.Job, x api.Trace, a [][]api.Answer) int {
	t.Helper()
	marked := map[int]int{}
	for h, jobs := range hands {
		for k, j := range jobs {
			answer := a[h][k]
			number := trial.Number(answer.Val)
			at := trial.HeadAt(sh, number)
			if answer.OK && at >= 0 && trial.White(x.Words[at], trial.Upper(answer.Val), colour) {
				t.Fatalf("%v has told %x, which is white: %x", j, answer.Val, x.Words)
			}
			if j.C != api.Close && at >= 0 && trial.White(words[at], trial.Upper(answer.Val), colour) {
				marked[number]++
			}
		}
	}
	for number := 1; number <= sh.Objects; number++ {
		at := trial.HeadAt(sh, number)
		want := words[at]
		if marked[number] > 0 {
			want ^= 2
		}
		if x.Words[at] != want {
			t.Fatalf("object %d: from %x to %x; want %x", number, words[at], x.Words[at], want)
		}
	}
	return len(marked)
}

// All hands see one object at one time: one of them turns its colour and puts it on the list, and all tell it.
func TestP19_2_OneObject(t *testing.T) {
	from := trial.Source(33)
	lost := 0
	for range 1000 {
		colour := from.Below(2)
		head := uint64(3 - 2*colour)
		words := puts(memory(0, cell{head, 9}, cell{head, 9}, cell{head, 9}), 12, 2, 13, 2, 14, 2)
		hands := make([][]api.Job, 2+from.Below(api.MaxHands-1))
		for h := range hands {
			hands[h] = []api.Job{see(from.Below(3), api.Arm+from.Below(2), colour), see(from.Below(3), api.Close, colour)}
		}
		x, a := run(t, three, words, hands, from.Schedule(from.Below(60)))
		if c := holdLaws(t, three, words, colour, hands, x, a); c != (counts{turned: 1, closed: len(hands)}) || x.Words[19] != head^2 {
			t.Fatal(hands, x, a, c)
		}
		for h, answers := range a {
			if !slices.Equal(answers, []api.Answer{told(2), told(2)}) {
				t.Fatal(hands, x, a)
			}
			lost += trial.CountLost(x, h, 19)
		}
		if list, isWhole := trial.ListIn(three, x.Words, api.Grey); !isWhole || !slices.Equal(list, []int{2}) || x.Words[2] != tagged(2, 1) {
			t.Fatal(list, x.Words)
		}
	}
	if lost < 200 {
		t.Error("too few CAS of the head were lost:", lost)
	}
}

// Nothing changes but what may, of each shape, where all words are unlike; whatever the jobs, of both colours. What the weak words
// hold in the end was set there, or stood there.
func TestP19_2_NothingElse(t *testing.T) {
	from := trial.Source(34)
	for _, sh := range trial.RightShapes() {
		if sh.Weaks == 0 {
			continue
		}
		for range 40 {
			words := trial.Memory(sh, api.Grey, tagged(from.Below(sh.Objects+1), trial.Tags()[from.Below(len(trial.Tags()))]))
			for number := 1; number <= sh.Objects; number++ {
				words[trial.HeadAt(sh, number)] = from.Any() | 1
				words[trial.LinkAt(sh, number)] = from.Any()
			}
			hands := anyJobs(&from, sh, words, both, api.MaxHands, 40)
			x, _ := run(t, sh, words, hands, from.Schedule(500))
			holdNothingElse(t, sh, words, x)
			for number := range sh.Weaks {
				at := trial.WeakAt(sh, number)
				isSet := slices.ContainsFunc(slices.Concat(hands...), func(j api.Job) bool {
					return j.Kind == weak.Make && j.B == number && j.H == x.Words[at]
				})
				if x.Words[at] != words[at] && !isSet {
					t.Fatal(number, words[at], x.Words[at])
				}
			}
		}
	}
}
