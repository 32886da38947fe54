package trial

import (
	"slices"

	"midden/api"
	"midden/cells"
	"midden/turn"
)

// Tagged: a list's head, or a handle.
func Tagged(number int, upper uint64) uint64 { return uint64(number) + upper*half }

// Tags: those that are about to wrap among them.
func Tags() []uint64 { return []uint64{0, 1, 5, half/2 - 1, half - 2, half - 1} }

// FarNumbers: what is no object's number, behind the last one of so many.
func FarNumbers(objects int) []int {
	return []int{objects + 1, objects + 2, half/2 - 1, half / 2, half - 1}
}

// A Cell is an object's head and link.
type Cell = [2]uint64

// Memory: with these objects, and this head of that list; whatever else stands there is unlike all others.
func Memory(sh api.Shape, list int, head uint64, objects ...Cell) []uint64 {
	out := make([]uint64, SizeOf(sh))
	for at := range out {
		out[at] = uint64(1000 + at)
	}
	out[list] = head
	for i, o := range objects {
		copy(out[HeadAt(sh, i+1):], o[:])
	}
	return out
}

// With: the same words, but for one.
func With(words []uint64, at int, v uint64) []uint64 {
	out := slices.Clone(words)
	out[at] = v
	return out
}

// Puts: the same words, but for some: each place is followed by what stands there.
func Puts(words []uint64, pairs ...uint64) []uint64 {
	out := slices.Clone(words)
	for i := 0; i < len(pairs); i += 2 {
		out[pairs[i]] = pairs[i+1]
	}
	return out
}

// Shading: what a Mark of a handle in a colour does on these words, alone, step by step; and the words behind it.
func Shading(sh api.Shape, words []uint64, hand int, h uint64, colour int) ([]api.Step, []uint64) {
	number := Number(h)
	at := HeadAt(sh, number)
	if at < 0 {
		return []api.Step{Load(hand, -1, 0)}, words
	}
	head, grey := words[at], words[api.Grey]
	if !White(head, Upper(h), colour) {
		return []api.Step{Load(hand, at, head)}, words
	}
	turned := Turned(grey, number)
	return []api.Step{
		Load(hand, at, head), CAS(hand, at, head, head^2),
		Load(hand, api.Grey, grey), Store(hand, at+1, words[at+1], grey%half), CAS(hand, api.Grey, grey, turned),
	}, Puts(words, uint64(at), head^2, uint64(at+1), grey%half, api.Grey, turned)
}

// ListIn: a list, from its head along the links (the queue: along the next words); false, if it doesn't end with a 0, or has an
// object twice.
func ListIn(sh api.Shape, words []uint64, list int) ([]int, bool) {
	var out []int
	for number := Number(words[list]); number != 0; number = Number(words[behindAt(sh, list, number)]) {
		if number > sh.Objects || slices.Contains(out, number) {
			return nil, false
		}
		out = append(out, number)
	}
	return out, true
}

// behindAt: where the number stands that is behind this one in such a list.
func behindAt(sh api.Shape, list, number int) int {
	if list == api.Queue {
		return NextAt(sh, number)
	}
	return LinkAt(sh, number)
}

// Lay: a list of these objects, in this order. In the upper halves of its head and of the links stands what stood there.
func Lay(sh api.Shape, words []uint64, list int, numbers []int) []uint64 {
	out := slices.Clone(words)
	at := list
	for _, number := range append(slices.Clone(numbers), 0) {
		out[at] = Tagged(number, Upper(out[at]))
		at = behindAt(sh, list, number)
	}
	return out
}

// Drive makes a task's steps to its end on a memory by hand; what others put into a word stands ahead of which step they do so.
// It fails, if there is no end.
func Drive(t T, k turn.Task, words []uint64, amid map[int]Put) ([]api.Step, api.Answer, []uint64) {
	t.Helper()
	m, _ := cells.New(words)
	var steps []api.Step
	for i := range 100 {
		if p, ok := amid[i]; ok {
			m.Store(int(p[0]), p[1])
		}
		s, state := k.Step(m)
		steps = append(steps, s)
		if state == turn.Ended {
			return steps, k.Answer(), m.Words()
		}
		if state != turn.Going {
			t.Fatalf("neither going nor ended: %d", state)
		}
	}
	t.Fatalf("no end: %v", steps)
	return nil, api.Answer{}, nil
}

// A Put is a word's place, and what goes there.
type Put = [2]uint64
