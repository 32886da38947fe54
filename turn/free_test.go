package turn_test

import (
	"runtime"
	"slices"
	"sync/atomic"
	"testing"

	"midden/api"
	"midden/cells"
	"midden/turn"
)

// A search looks for an order of all hands' steps by which each one's Had is what stands there.
type search struct {
	steps  [][]api.Step
	next   []int
	words  []uint64
	order  []int
	failed map[string]struct{} // where the search has been in vain: how far each hand is, and the words
}

func (s *search) key() string {
	var b []byte
	for _, n := range s.next {
		b = append(b, byte(n), byte(n>>8))
	}
	for _, w := range s.words {
		for range 8 {
			b = append(b, byte(w))
			w >>= 8
		}
	}
	return string(b)
}

func (s *search) there(at int) bool { return at >= 0 && at < len(s.words) }

// find: a step that changes nothing is taken as soon as it fits: if that is in vain, so is all else.
func (s *search) find() bool {
	key, ended := s.key(), true
	if _, seen := s.failed[key]; seen {
		return false
	}
	for h, steps := range s.steps {
		if s.next[h] == len(steps) {
			continue
		}
		ended = false
		step := steps[s.next[h]]
		if s.there(step.At) && s.words[step.At] != step.Had {
			continue
		}
		if s.make(h, step) {
			return true
		}
		if step.Put == step.Had {
			break
		}
	}
	if !ended {
		s.failed[key] = struct{}{}
	}
	return ended
}

func (s *search) make(h int, step api.Step) bool {
	s.next[h]++
	s.order = append(s.order, h)
	if s.there(step.At) {
		s.words[step.At] = step.Put
	}
	if s.find() {
		return true
	}
	s.next[h]--
	s.order = s.order[:len(s.order)-1]
	if s.there(step.At) {
		s.words[step.At] = step.Had
	}
	return false
}

// schedule tells the numbers that pick the hands in the order that was found.
func (s *search) schedule() []int {
	left := make([]int, len(s.steps))
	for h, steps := range s.steps {
		left[h] = len(steps)
	}
	var out []int
	for _, h := range s.order {
		pick := 0
		for _, n := range left[:h] {
			pick += min(n, 1)
		}
		out = append(out, pick)
		left[h]--
	}
	return out
}

// meet keeps all hands at their first step until each has come there, so that they run beside one another.
type meet struct {
	task
	here *atomic.Int64
	all  int64
}

func (x *meet) Step(m *cells.Mem) (api.Step, int) {
	if x.made == 0 {
		for x.here.Add(1); x.here.Load() < x.all; {
			runtime.Gosched()
		}
	}
	return x.task.Step(m)
}

// holdFree fails, if there is no schedule by which Play gives what Free gave.
func holdFree(t *testing.T, words []uint64, hands [][]api.Job) {
	t.Helper()
	var here atomic.Int64
	made := make([][]*task, len(hands))
	w, a, e := turn.Free(words, hands, func(hand int, j api.Job) (turn.Task, api.Errno) {
		if len(made[hand]) > 0 {
			one := &task{hand: hand, job: j}
			made[hand] = append(made[hand], one)
			return one, api.OK
		}
		one := &meet{task: task{hand: hand, job: j}, here: &here, all: int64(len(hands))}
		made[hand] = append(made[hand], &one.task)
		return one, api.OK
	})
	if e != api.OK {
		t.Fatal(e)
	}
	s := &search{steps: make([][]api.Step, len(hands)), next: make([]int, len(hands)), words: slices.Clone(words), failed: map[string]struct{}{}}
	for h, tasks := range made {
		for _, one := range tasks {
			s.steps[h] = append(s.steps[h], one.steps...)
			if one.asked != 1 {
				t.Fatal("asked", one.asked, "times")
			}
		}
	}
	if !s.find() {
		t.Fatalf("no order of these steps: %+v", s.steps)
	}
	x, b, e := turn.Play(words, hands, s.schedule(), api.MaxSteps, makeOne)
	if e != api.OK || !x.Ended || !slices.Equal(x.Words, w) || !sameAnswers(a, b) {
		t.Fatalf("free: %v, %v; by the schedule: %v, %v, %v", w, a, x.Words, b, e)
	}
}

func TestP3_5_SomeSchedule(t *testing.T) {
	from := source(9)
	for range 300 {
		words := make([]uint64, 1+from.below(2))
		hands := make([][]api.Job, 2+from.below(3))
		for h := range hands {
			for range 1 + from.below(20) {
				hands[h] = append(hands[h], api.Job{Kind: api.Load + from.below(5), A: from.place(len(words)), B: from.below(3), H: uint64(from.below(3))})
			}
		}
		holdFree(t, words, hands)
	}
}

func TestP3_5_SomeScheduleOfLongTasks(t *testing.T) {
	from := source(10)
	for range 300 {
		words := make([]uint64, 1+from.below(3))
		hands := make([][]api.Job, 2+from.below(3))
		for h := range hands {
			for range 1 + from.below(12) {
				hands[h] = append(hands[h], api.Job{Kind: repeat + from.below(3), A: from.below(len(words)), B: from.place(len(words)), C: 1 + from.below(3), H: uint64(from.below(3))})
			}
		}
		holdFree(t, words, hands)
	}
}

// Many hands at one word: nothing is lost, and what the raises tell are numbers that come once each.
func TestP3_5_OneWordForAll(t *testing.T) {
	hands := slices.Repeat([][]api.Job{slices.Repeat([]api.Job{{Kind: raise, H: 1}}, api.MaxJobs)}, api.MaxHands)
	for range 10 {
		w, a, e := turn.Free([]uint64{5}, hands, makeOne)
		if e != api.OK || !slices.Equal(w, []uint64{5 + api.MaxHands*api.MaxJobs}) || len(a) != api.MaxHands {
			t.Fatal(w, len(a), e)
		}
		var all []uint64
		for h := range a {
			own := vals(a[h])
			if len(own) != api.MaxJobs || !slices.IsSorted(own) {
				t.Fatal("hand", h, own)
			}
			all = append(all, own...)
		}
		slices.Sort(all)
		for i, v := range all {
			if v != uint64(5+i) {
				t.Fatal("number", i, "is", v)
			}
		}
	}
}

// Each hand waits for the one ahead of it, around and around: by every schedule that ends, so it must free, on
// one processor too. Hands that run one behind the other would wait for ever.
func TestP3_5_OneWaitsForAnother(t *testing.T) {
	const rounds = 20
	hands := make([][]api.Job, api.MaxHands)
	for h := range hands {
		for i := range rounds {
			hands[h] = append(hands[h], api.Job{Kind: await, H: uint64(i*api.MaxHands + api.MaxHands - 1 - h)})
		}
	}
	for _, n := range []int{1, 2, runtime.NumCPU()} {
		was := runtime.GOMAXPROCS(n)
		w, a, e := turn.Free([]uint64{0}, hands, makeOne)
		runtime.GOMAXPROCS(was)
		if e != api.OK || !slices.Equal(w, []uint64{rounds * api.MaxHands}) || len(a) != api.MaxHands {
			t.Fatal(w, e)
		}
		for h := range a {
			for i, told := range a[h] {
				if told != (api.Answer{OK: true, Val: hands[h][i].H}) {
					t.Fatal(n, h, i, told)
				}
			}
		}
	}
}

// One hand alone: there is only one run, be it by a schedule or free.
func TestP3_5_OneHandAlone(t *testing.T) {
	from := source(11)
	for range 300 {
		words := from.words(1 + from.below(3))
		hands := from.jobs(1, 9, len(words))
		hands = append(make([][]api.Job, from.below(3)), append(hands, nil)...)
		x, a, e := turn.Play(words, hands, nil, 1000, makeOne)
		w, b, e2 := turn.Free(words, hands, makeOne)
		if e != api.OK || e2 != api.OK || !x.Ended || !slices.Equal(w, x.Words) || !sameAnswers(a, b) {
			t.Fatal(x, a, e, w, b, e2)
		}
	}
}

func TestP3_5_NobodyActs(t *testing.T) {
	for _, hands := range [][][]api.Job{nil, {}, {nil, {}, nil}} {
		for _, words := range [][]uint64{nil, {}, {4, 5}} {
			if w, a, e := turn.Free(words, hands, makeOne); e != api.OK || !slices.Equal(w, words) || !sameAnswers(a, make([][]api.Answer, len(hands))) {
				t.Error(w, a, e)
			}
		}
	}
}

// The maker is called in order, ahead of all steps, as by a schedule.
func TestP3_5_MakerAheadOfAll(t *testing.T) {
	hands := [][]api.Job{adds(3), nil, adds(2), adds(1)}
	var steps atomic.Int64
	var got []int
	w, _, e := turn.Free([]uint64{0}, hands, func(hand int, _ api.Job) (turn.Task, api.Errno) {
		if steps.Load() != 0 {
			t.Error("a step ahead of the maker's call")
		}
		got = append(got, hand)
		return asker(func(m *cells.Mem) (api.Step, int) {
			steps.Add(1)
			return m.Do(hand, api.Add, 0, 0, 1), turn.Ended
		}), api.OK
	})
	if e != api.OK || !slices.Equal(got, []int{0, 0, 0, 2, 2, 3}) || !slices.Equal(w, []uint64{6}) || steps.Load() != 6 {
		t.Error(w, got, steps.Load(), e)
	}
}

// All goroutines have ended when the call answers. (One that has told so may need a moment to be gone.)
func TestP3_5_NobodyLeft(t *testing.T) {
	before := runtime.NumGoroutine()
	from := source(12)
	for range 50 {
		words := from.words(2)
		turn.Free(words, from.jobs(api.MaxHands, 9, 2), makeOne)
		turn.Free([]uint64{0}, [][]api.Job{{{Kind: repeat, C: 5000}}, {{Kind: await, H: 0}}}, makeOne)
	}
	for range 1000000 {
		if runtime.NumGoroutine() <= before {
			return
		}
		runtime.Gosched()
	}
	t.Error(before, runtime.NumGoroutine())
}
