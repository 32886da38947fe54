package heap_test

import (
	"math"
	"slices"
	"testing"

	"midden/api"
	"midden/cells"
	"midden/heap"
	"midden/trial"
	"midden/turn"
)

const half = 1 << 32

// Where acks, roots, weak words and objects' words stand; those that aren't there, and all of a shape that is none, stand at no word.
func TestPlaces(t *testing.T) {
	for _, sh := range trial.RightShapes() {
		for _, number := range slices.Concat(trial.Ends(), trial.FarNumbers(sh.Objects), []int{0, 1, 2, sh.Objects, 1 << 32, 1<<32 + 1}) {
			isThere := number >= 1 && number <= sh.Objects
			if at := heap.HeadAt(sh, number); at != trial.HeadAt(sh, number) || (at != heap.NoWord) != isThere {
				t.Error("a head", sh, number, at)
			}
			if at := heap.LinkAt(sh, number); at != trial.LinkAt(sh, number) || (at != heap.NoWord) != isThere {
				t.Error("a link", sh, number, at)
			}
			if at := heap.NextAt(sh, number); at != trial.NextAt(sh, number) || (at != heap.NoWord) != isThere {
				t.Error("a next", sh, number, at)
			}
			for _, slot := range append(trial.Ends(), 0, 1, sh.Slots-1, sh.Slots, 1<<32) {
				if at := heap.SlotAt(sh, number, slot); at != trial.SlotAt(sh, number, slot) || (at != heap.NoWord) != (isThere && slot >= 0 && slot < sh.Slots) {
					t.Error("a slot", sh, number, slot, at)
				}
			}
			if heap.IsNumber(sh, number) != isThere {
				t.Error("a number", sh, number)
			}
		}
		for _, hand := range append(trial.Ends(), 0, 1, sh.Hands-1, sh.Hands, 1<<32) {
			if at := heap.AckAt(sh, hand); at != trial.AckAt(sh, hand) || (at != heap.NoWord) != (hand >= 0 && hand < sh.Hands) {
				t.Error("an ack", sh, hand, at)
			}
			for _, root := range append(trial.Ends(), 0, 1, sh.Roots-1, sh.Roots, 1<<32) {
				isThere := hand >= 0 && hand < sh.Hands && root >= 0 && root < sh.Roots
				if at := heap.RootAt(sh, hand, root); at != trial.RootAt(sh, hand, root) || (at != heap.NoWord) != isThere {
					t.Error("a root", sh, hand, root, at)
				}
			}
		}
		for _, weak := range append(trial.Ends(), 0, 1, sh.Weaks-1, sh.Weaks, 1<<32) {
			if at := heap.WeakAt(sh, weak); at != trial.WeakAt(sh, weak) || (at != heap.NoWord) != (weak >= 0 && weak < sh.Weaks) {
				t.Error("a weak word", sh, weak, at)
			}
		}
	}
	for _, sh := range trial.WrongShapes() {
		if heap.AckAt(sh, 0) != heap.NoWord || heap.RootAt(sh, 0, 0) != heap.NoWord || heap.WeakAt(sh, 0) != heap.NoWord || heap.HeadAt(sh, 1) != heap.NoWord || heap.LinkAt(sh, 1) != heap.NoWord || heap.NextAt(sh, 1) != heap.NoWord || heap.SlotAt(sh, 1, 0) != heap.NoWord {
			t.Error("no shape", sh)
		}
		if heap.IsNumber(sh, 1) != (sh.Objects >= 1) {
			t.Error("a number of no shape", sh)
		}
	}
	if heap.NoWord != -1 {
		t.Error(heap.NoWord)
	}
}

// Of a colour the last bit counts, of one below 0 too.
func TestLastBit(t *testing.T) {
	for colour, want := range map[int]int{0: 0, 1: 1, 2: 0, 3: 1, -1: 1, -2: 0, 1 << 32: 0, 1<<32 + 1: 1, math.MinInt: 0, math.MaxInt: 1} {
		if got := heap.LastBit(colour); got != want {
			t.Error(colour, got)
		}
	}
}

// A turning is a task that turns a list's head to the number 9, if that shows one; behind that it has an act of each other kind.
type turning struct {
	heap.Work
	head uint64
}

func (k *turning) find(m *cells.Mem) (api.Step, int) {
	s := k.Load(m, 0)
	k.head = s.Had
	if trial.Number(k.head) == 0 {
		return s, k.Refuse()
	}
	return s, k.GoOn(k.turn)
}

func (k *turning) turn(m *cells.Mem) (api.Step, int) {
	s := k.CAS(m, 0, k.head, trial.Turned(k.head, 9))
	if !s.OK {
		return s, k.GoOn(k.find)
	}
	return s, k.GoOn(k.store)
}

func (k *turning) store(m *cells.Mem) (api.Step, int) { return k.Store(m, 1, 7), k.GoOn(k.add) }
func (k *turning) add(m *cells.Mem) (api.Step, int)   { return k.Add(m, 1, 4), k.GoOn(k.swap) }
func (k *turning) swap(m *cells.Mem) (api.Step, int)  { return k.CAS(m, 1, 11, 5), k.GoOn(k.end) }
func (k *turning) end(m *cells.Mem) (api.Step, int) {
	return k.Load(m, 1), k.End(uint64(trial.Number(k.head)))
}

func newTurning(hand int) turn.Task {
	k := &turning{}
	k.Begin(hand, k.find)
	return k
}

// A task goes from act to act, each by its hand, and tells nothing ahead of its end.
func TestWork(t *testing.T) {
	for _, hand := range append(trial.Ends(), 0, 8) {
		k := newTurning(hand)
		words := []uint64{trial.Tagged(2, half-1), 3}
		if k.Answer() != (api.Answer{}) {
			t.Error("told too early", k.Answer())
		}
		steps, told, behind := trial.Drive(t, k, words, map[int]trial.Put{1: {0, trial.Tagged(6, 4)}})
		want := []api.Step{
			trial.Load(hand, 0, words[0]), trial.Lost(hand, 0, trial.Tagged(6, 4)),
			trial.Load(hand, 0, trial.Tagged(6, 4)), trial.CAS(hand, 0, trial.Tagged(6, 4), trial.Tagged(9, 5)),
			trial.Store(hand, 1, 3, 7), trial.Add(hand, 1, 7, 11), trial.CAS(hand, 1, 11, 5), trial.Load(hand, 1, 5),
		}
		if !slices.Equal(steps, want) || told != trial.Told(6) || !slices.Equal(behind, []uint64{trial.Tagged(9, 5), 5}) {
			t.Error(hand, steps, told, behind)
		}
		// Nothing to do: one step, and nothing is told.
		if steps, told, _ := trial.Drive(t, newTurning(hand), []uint64{5 * half}, nil); len(steps) != 1 || told != (api.Answer{}) {
			t.Error(hand, steps, told)
		}
	}
}

// A task that is done tells its value with OK; one that is refused without, or tells nothing at all.
func TestEnds(t *testing.T) {
	for _, v := range append(trial.Values(), 7) {
		for want, end := range map[api.Answer]func(w *heap.Work) int{
			{OK: true, Val: v}:  func(w *heap.Work) int { return w.End(v) },
			{Val: v}:            func(w *heap.Work) int { return w.RefuseWith(v) },
			{OK: false, Val: 0}: func(w *heap.Work) int { return w.Refuse() },
		} {
			var w heap.Work
			w.Begin(3, func(m *cells.Mem) (api.Step, int) { return w.Load(m, 0), end(&w) })
			if steps, told, _ := trial.Drive(t, &w, []uint64{v}, nil); told != want || !slices.Equal(steps, []api.Step{trial.Load(3, 0, v)}) {
				t.Error(v, steps, told, want)
			}
		}
	}
}

// A walking is a task that goes along two turnings, one behind the other, and tells what they told.
type walking struct {
	heap.Work
	first api.Answer
}

func (k *walking) begin(m *cells.Mem) (api.Step, int) {
	return k.Load(m, 1), k.GoAlong(newTurning(k.Hand()), k.again)
}

func (k *walking) again(told api.Answer) int {
	k.first = told
	return k.GoAlong(newTurning(k.Hand()), k.leave)
}

// leave: with the last step of its last part the task ends too, if that had nothing to tell; else there is a step more.
func (k *walking) leave(told api.Answer) int {
	if !told.OK {
		return k.End(100*k.first.Val + 99)
	}
	return k.GoOn(func(m *cells.Mem) (api.Step, int) { return k.Load(m, 0), k.End(100*k.first.Val + told.Val) })
}

// The steps of a part are the task's own, and behind the last one it goes on by what the part told.
func TestParts(t *testing.T) {
	for _, hand := range append(trial.Ends(), 0, 8) {
		k := &walking{}
		k.Begin(hand, k.begin)
		if k.Hand() != hand {
			t.Error(k.Hand())
		}
		words := []uint64{trial.Tagged(2, 3), 3}
		part := func(had uint64, tag, is uint64) []api.Step {
			return []api.Step{
				trial.Load(hand, 0, had), trial.CAS(hand, 0, had, trial.Tagged(9, tag)),
				trial.Store(hand, 1, is, 7), trial.Add(hand, 1, 7, 11), trial.CAS(hand, 1, 11, 5), trial.Load(hand, 1, 5),
			}
		}
		want := slices.Concat([]api.Step{trial.Load(hand, 1, 3)}, part(words[0], 4, 3), part(trial.Tagged(9, 4), 5, 5), []api.Step{trial.Load(hand, 0, trial.Tagged(9, 5))})
		steps, told, _ := trial.Drive(t, k, words, nil)
		if !slices.Equal(steps, want) || told != trial.Told(209) {
			t.Error(hand, steps, told)
		}
		// The list is empty when the second part looks at it: that one ends with its first step, and so does the task.
		k = &walking{}
		k.Begin(hand, k.begin)
		steps, told, _ = trial.Drive(t, k, words, map[int]trial.Put{7: {0, 6 * half}})
		if !slices.Equal(steps, append(want[:7:7], trial.Load(hand, 0, 6*half))) || told != trial.Told(299) {
			t.Error(hand, steps, told)
		}
	}
}

// A task may begin with the steps of a part.
func TestBeginAlong(t *testing.T) {
	for _, hand := range append(trial.Ends(), 0, 8) {
		var w heap.Work
		var part api.Answer
		w.BeginAlong(hand, newTurning(hand), func(told api.Answer) int {
			part = told
			return w.GoOn(func(m *cells.Mem) (api.Step, int) { return w.Load(m, 1), w.End(told.Val + 40) })
		})
		if w.Hand() != hand || w.Answer() != (api.Answer{}) {
			t.Error(w.Hand(), w.Answer())
		}
		words := []uint64{trial.Tagged(2, 3), 3}
		alone, told, _ := trial.Drive(t, newTurning(hand), words, nil)
		steps, all, _ := trial.Drive(t, &w, words, nil)
		if !slices.Equal(steps, append(alone, trial.Load(hand, 1, 5))) || part != told || all != trial.Told(42) {
			t.Error(hand, steps, part, all)
		}
	}
}
