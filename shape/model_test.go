package shape_test

import (
	"fmt"
	"iter"
	"slices"
	"strconv"
	"strings"
	"testing"

	"midden/api"
	"midden/shape"
	"midden/trial"
)

// numbered: a name of a word.
func numbered(part string, n int) string { return fmt.Sprint(part, " ", n) }

// layout: the names of a memory's words, one behind the other, as the chapter lays them out.
func layout(sh api.Shape) []string {
	out := strings.Fields("phase free grey queue allocated freed queued cycles")
	for hand := range sh.Hands {
		out = append(out, numbered("ack", hand))
	}
	for hand := range sh.Hands {
		for root := range sh.Roots {
			out = append(out, fmt.Sprintf("root %d %d", hand, root))
		}
	}
	for weak := range sh.Weaks {
		out = append(out, numbered("weak", weak))
	}
	for index := 1; index <= sh.Objects; index++ {
		out = append(out, numbered("head", index), numbered("link", index), numbered("next", index))
		for slot := range sh.Slots {
			out = append(out, fmt.Sprintf("slot %d %d", index, slot))
		}
	}
	return out
}

// headWords: the words that api gives numbers of their own.
func headWords() map[string]int {
	return map[string]int{"phase": api.Phase, "free": api.Free, "grey": api.Grey, "queue": api.Queue,
		"allocated": api.Allocated, "freed": api.Freed, "queued": api.Queued, "cycles": api.Cycles}
}

// placeOf: what the call for words of this name tells.
func placeOf(t *testing.T, sh api.Shape, name string) (int, api.Errno) {
	t.Helper()
	fields := strings.Split(name, " ")
	var n []int
	for _, f := range fields[1:] {
		i, err := strconv.Atoi(f)
		if err != nil || strconv.Itoa(i) != f {
			t.Fatalf("%v: %q", sh, name)
		}
		n = append(n, i)
	}
	part := fields[0]
	at, isHead := headWords()[part]
	switch {
	case isHead && len(n) == 0:
		return at, api.OK
	case part == "ack" && len(n) == 1:
		return shape.Ack(sh, n[0])
	case part == "root" && len(n) == 2:
		return shape.Root(sh, n[0], n[1])
	case part == "weak" && len(n) == 1:
		return shape.Weak(sh, n[0])
	case part == "slot" && len(n) == 2:
		return shape.Slot(sh, n[0], n[1])
	}
	behind := slices.Index([]string{"head", "link", "next"}, part)
	if behind < 0 || len(n) != 1 {
		t.Fatalf("%v: no word is called %q", sh, name)
	}
	at, e := shape.Object(sh, n[0])
	if e != api.OK {
		return at, e
	}
	return at + behind, api.OK
}

// shapes: all that are made of these numbers. Room is another one each time.
func shapes(objects, slots, hands, roots, weaks []int) iter.Seq[api.Shape] {
	rooms := append([]int{0, 1, api.MaxRoom, api.MaxRoom + 1, 1 << 40}, trial.Ends()...)
	made := 0
	return func(yield func(api.Shape) bool) {
		for _, o := range objects {
			for _, s := range slots {
				for _, h := range hands {
					for _, r := range roots {
						for _, w := range weaks {
							made++
							if !yield(api.Shape{Objects: o, Slots: s, Hands: h, Roots: r, Weaks: w, Room: rooms[made%len(rooms)]}) {
								return
							}
						}
					}
				}
			}
		}
	}
}

// span: the numbers from one to another.
func span(from, to int) []int {
	var out []int
	for n := from; n <= to; n++ {
		out = append(out, n)
	}
	return out
}

// everyShape: all right ones.
func everyShape() iter.Seq[api.Shape] {
	return shapes(span(1, api.MaxObjects), span(0, api.MaxSlots), span(1, api.MaxHands-1), span(1, api.MaxRoots), span(0, api.MaxWeaks))
}

// someShapes: right ones with each number at its ends and near them.
func someShapes() iter.Seq[api.Shape] {
	return shapes([]int{1, 2, 3, 10, api.MaxObjects - 1, api.MaxObjects}, span(0, api.MaxSlots), []int{1, 2, 3, api.MaxHands - 1},
		[]int{1, 2, 3, api.MaxRoots}, []int{0, 1, 2, 11, api.MaxWeaks})
}

// example: two objects with a slot each, one hand with two roots, one weak word.
var example = api.Shape{Objects: 2, Slots: 1, Hands: 1, Roots: 2, Weaks: 1}
