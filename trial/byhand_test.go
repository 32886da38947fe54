package trial_test

import (
	"slices"
	"testing"

	"midden/api"
	"midden/cells"
	"midden/trial"
	"midden/turn"
)

// A memory by hand has what it is asked for, and beside that no two words alike; a change of one word leaves it as it is.
func TestMemoryByHand(t *testing.T) {
	sh := api.Shape{Objects: 3, Slots: 1, Hands: 1, Roots: 1} // heads 10, 14 and 18
	words := trial.Memory(sh, api.Grey, 5, trial.Cell{1, 2}, trial.Cell{3, 4})
	if len(words) != trial.SizeOf(sh) || words[2] != 5 || words[10] != 1 || words[11] != 2 || words[14] != 3 || words[15] != 4 {
		t.Error(words)
	}
	if slices.Sort(words); len(slices.Compact(words)) != trial.SizeOf(sh) {
		t.Error("two words alike:", words)
	}
	words = []uint64{1, 2, 3}
	if with := trial.With(words, 1, 9); !slices.Equal(with, []uint64{1, 9, 3}) || !slices.Equal(words, []uint64{1, 2, 3}) {
		t.Error(with, words)
	}
}

// Numbers that are about a half's end, and numbers of no object.
func TestNumbers(t *testing.T) {
	for _, tag := range trial.Tags() {
		w := trial.Tagged(7, tag)
		if trial.Number(w) != 7 || trial.Upper(w) != tag || trial.Number(trial.Turned(w, 3)) != 3 || uint32(trial.Upper(trial.Turned(w, 3))) != uint32(tag)+1 {
			t.Error(tag, w)
		}
		if w := trial.Turned(w, -1); trial.Number(w) != 1<<32-1 || uint32(trial.Upper(w)) != uint32(tag)+1 {
			t.Error("a number below 0", tag, w)
		}
	}
	for _, number := range trial.FarNumbers(5) {
		if number <= 5 || number >= 1<<32 {
			t.Error(number)
		}
	}
}

// A list that is laid is the list that is found, whatever stands in the upper halves; what is no list is told so.
func TestLists(t *testing.T) {
	sh := api.Shape{Objects: 4, Hands: 1, Roots: 1}
	from := trial.Source(8)
	for _, list := range [][]int{nil, {1}, {4, 2}, {3, 1, 2, 4}} {
		words := from.Words(sh)
		held := slices.Clone(words)
		laid := trial.Lay(sh, words, api.Free, list)
		if found, whole := trial.ListIn(sh, laid, api.Free); !whole || !slices.Equal(found, list) || !slices.Equal(words, held) {
			t.Error(list, found, whole)
		}
		for at := range words {
			if trial.Upper(laid[at]) != trial.Upper(words[at]) {
				t.Error(list, at)
			}
		}
	}
	// The queue leads along other words than the others do: both can stand side by side.
	both := trial.Lay(sh, trial.Lay(sh, from.Words(sh), api.Queue, []int{2, 4, 1}), api.Grey, []int{1, 3, 2})
	queue, isQueue := trial.ListIn(sh, both, api.Queue)
	grey, isGrey := trial.ListIn(sh, both, api.Grey)
	if !isQueue || !isGrey || !slices.Equal(queue, []int{2, 4, 1}) || !slices.Equal(grey, []int{1, 3, 2}) || trial.Number(both[trial.NextAt(sh, 2)]) != 4 {
		t.Error("the queue", queue, grey)
	}
	ring := trial.Lay(sh, make([]uint64, trial.SizeOf(sh)), api.Grey, []int{1, 2})
	ring[trial.LinkAt(sh, 2)] = 1
	if list, whole := trial.ListIn(sh, ring, api.Grey); whole || list != nil {
		t.Error("a ring", list)
	}
	ring[trial.LinkAt(sh, 2)] = 5
	if list, whole := trial.ListIn(sh, ring, api.Grey); whole || list != nil {
		t.Error("a number past the objects", list)
	}
}

// A still is a task that is always the same.
type still int

func (s still) Step(m *cells.Mem) (api.Step, int) { return m.Do(0, api.Load, 0, 0, 0), int(s) }
func (s still) Answer() api.Answer                { return api.Answer{} }

// A task is driven to its end, with what others put amid it; one that has none, or tells neither, is heard.
func TestDrive(t *testing.T) {
	k, _ := task(api.Shape{Room: 2}, 3, api.Job{Kind: 1, A: 1, H: 5})
	steps, told, behind := trial.Drive(t, k, []uint64{0, 7}, map[int]trial.Put{1: {1, 9}})
	want := []api.Step{trial.Load(3, 1, 7), trial.Lost(3, 1, 9)}
	if len(steps) != 4 || !slices.Equal(steps[:2], want) || told != trial.Told(9) || !slices.Equal(behind, []uint64{0, 14}) {
		t.Error(steps, told, behind)
	}
	for _, state := range []int{turn.Going, 7} {
		if !hears(func(t trial.T) { trial.Drive(t, still(state), nil, nil) }) {
			t.Error("nothing is heard", state)
		}
	}
}
