package turn_test

import (
	"slices"
	"testing"

	"midden/api"
	"midden/turn"
)

// A sample is a run of Play or Acts.
type sample struct {
	words    []uint64
	hands    [][]api.Job
	schedule []int
	maker    turn.Maker // nil: by Acts
}

func (s *source) sample() sample {
	words := s.words(1 + s.below(3))
	out := sample{words: words, schedule: s.schedule(s.below(40))}
	if s.below(2) == 0 {
		out.hands = s.acts(1+s.below(api.MaxHands), 5, len(words))
	} else {
		out.hands, out.maker = s.jobs(1+s.below(4), 4, len(words)), makeOne
	}
	return out
}

func (s sample) play(t *testing.T, schedule []int, most int) (api.Trace, [][]api.Answer) {
	t.Helper()
	var x api.Trace
	var a [][]api.Answer
	var e api.Errno
	if s.maker == nil {
		x, a, e = turn.Acts(s.words, s.hands, schedule, most)
	} else {
		x, a, e = turn.Play(s.words, s.hands, schedule, most, s.maker)
	}
	if e != api.OK {
		t.Fatal(s.hands, e)
	}
	return x, a
}

func TestP3_2_TheTraceIsTheRun(t *testing.T) {
	from := source(3)
	for round := range 2000 {
		s := from.sample()
		x, _ := s.play(t, s.schedule, from.below(60))
		words := slices.Clone(s.words)
		for i, step := range x.Steps {
			if step.At < 0 || step.At >= len(words) {
				if step.Had != 0 || step.Put != 0 {
					t.Fatalf("%d: step %d, where no word is: %+v", round, i, step)
				}
				continue
			}
			if step.Had != words[step.At] {
				t.Fatalf("%d: step %d: %+v, but %d stands there", round, i, step, words[step.At])
			}
			words[step.At] = step.Put
		}
		if !slices.Equal(words, x.Words) {
			t.Fatalf("%d: the words are %v, by the steps %v", round, x.Words, words)
		}
	}
}

// What each act does, each step tells: it is what cells makes of such an act on the words ahead of it.
func TestP3_2_EachStepIsAnAct(t *testing.T) {
	from := source(4)
	for range 500 {
		words := from.words(2)
		hands := from.acts(3, 6, 2)
		x, a, e := turn.Acts(words, hands, from.schedule(9), 60)
		if e != api.OK || !x.Ended {
			t.Fatal(x, e)
		}
		at := make([]int, len(hands))
		for _, step := range x.Steps {
			j := hands[step.Hand][at[step.Hand]]
			want := lay(words, api.Step{Hand: step.Hand, Act: j.Kind, At: j.A, Had: uint64(j.B), Put: j.H})
			told := a[step.Hand][at[step.Hand]]
			if step != want || told != (api.Answer{OK: want.OK, Val: want.Had}) {
				t.Fatalf("%+v, %+v; want %+v", step, told, want)
			}
			at[step.Hand]++
		}
	}
}

func TestP3_3_Pieces(t *testing.T) {
	from := source(5)
	for round := range 300 {
		s := from.sample()
		whole, answers := s.play(t, s.schedule, 300)
		if !whole.Ended {
			t.Fatal(round, len(whole.Steps))
		}
		for most := range len(whole.Steps) + 3 {
			x, a := s.play(t, s.schedule, most)
			n := min(most, len(whole.Steps))
			if !slices.Equal(x.Steps, whole.Steps[:n]) || x.Ended != (n == len(whole.Steps)) {
				t.Fatalf("%d: most %d: %v; want the first of %v", round, most, x.Steps, whole.Steps)
			}
			for h := range a {
				if !slices.Equal(a[h], answers[h][:len(a[h])]) {
					t.Fatalf("%d: most %d: hand %d tells %v, at the end %v", round, most, h, a[h], answers[h])
				}
			}
		}
	}
}

// Numbers of the schedule behind the run's last step are not looked at, be they there or not.
func TestP3_3_ScheduleCutOff(t *testing.T) {
	from := source(6)
	for round := range 500 {
		s := from.sample()
		long := append(slices.Clone(s.schedule), from.schedule(260)...)
		for _, most := range []int{from.below(20), 300} {
			x, a := s.play(t, long, most)
			for _, n := range []int{len(x.Steps), len(x.Steps) + 1, len(x.Steps) + from.below(40)} {
				cut := slices.Clone(long)[:min(n, len(long))]
				y, b := s.play(t, cut, most)
				if !sameTrace(x, y) || !sameAnswers(a, b) {
					t.Fatalf("%d: cut at %d of %d: %v, %v; want %v, %v", round, n, len(long), y, b, x, a)
				}
			}
		}
	}
}

// The tasks keep their own steps: laid hand by hand they are the trace's of that hand, and each hand's are in its tasks' order.
func TestP3_4_EachByItself(t *testing.T) {
	from := source(7)
	for round := range 1000 {
		words := from.words(2)
		hands := from.jobs(1+from.below(api.MaxHands), 5, 2)
		var k keeper
		most := from.below(120)
		x, a, e := turn.Play(words, hands, from.schedule(from.below(60)), most, k.make)
		if e != api.OK {
			t.Fatal(round, e)
		}
		all := 0
		for h := range hands {
			var own, told []api.Step
			for _, s := range x.Steps {
				if s.Hand == h {
					told = append(told, s)
				}
			}
			for i, one := range k.tasks[h] {
				own = append(own, one.steps...)
				if i < len(a[h]) && (one.asked != 1 || a[h][i] != one.told()) || i > len(a[h]) && one.made != 0 {
					t.Fatalf("%d: hand %d, task %d: %+v, answers %v", round, h, i, one, a[h])
				}
			}
			if !slices.Equal(own, told) {
				t.Fatalf("%d: hand %d made %v, the trace tells %v", round, h, own, told)
			}
			all += len(own)
		}
		if all != len(x.Steps) {
			t.Fatal(round, all, len(x.Steps))
		}
	}
}

// By jobs that are told apart by what they add: their number and order, for every hand, whatever the schedule.
func TestP3_4_TheJobsOrder(t *testing.T) {
	from := source(8)
	for round := range 500 {
		hands := make([][]api.Job, 1+from.below(api.MaxHands))
		for h := range hands {
			for i := range from.below(6) {
				hands[h] = append(hands[h], api.Job{Kind: repeat, C: 1 + from.below(3), H: uint64(100*h + i + 1)})
			}
		}
		x, _, e := turn.Play([]uint64{0}, hands, from.schedule(from.below(100)), 500, makeOne)
		if e != api.OK || !x.Ended {
			t.Fatal(round, x, e)
		}
		got, want := make([][]uint64, len(hands)), make([][]uint64, len(hands))
		for _, s := range x.Steps {
			got[s.Hand] = append(got[s.Hand], s.Put-s.Had)
		}
		for h, jobs := range hands {
			for _, j := range jobs {
				want[h] = append(want[h], slices.Repeat([]uint64{j.H}, j.C)...)
			}
		}
		if !slices.EqualFunc(got, want, slices.Equal) {
			t.Fatalf("%d: %v; want %v", round, got, want)
		}
	}
}
