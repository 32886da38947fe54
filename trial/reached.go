package trial

import (
	"slices"

	"midden/api"
)

// What is reached in a view, as plain code: what shows what is a table, and what is reached is told by that table alone.
// Nothing of the program is called, and nothing is walked.

const half = 1 << 32

// Shown: the number of the object that a handle shows, if it is good; 0, if it isn't.
func Shown(v api.View, h uint64) int {
	for i, o := range v.Objects {
		if o.Used && h%half == uint64(i+1) && h/half == o.Gen {
			return i + 1
		}
	}
	return 0
}

// ShownBy: for each object, whether one of these handles shows it.
func ShownBy(v api.View, handles []uint64) []bool {
	out := make([]bool, len(v.Objects))
	for _, h := range handles {
		if number := Shown(v, h); number > 0 {
			out[number-1] = true
		}
	}
	return out
}

// Shows: for each object, which ones the handles in its slots show, whether it is in use or not.
func Shows(v api.View) [][]bool {
	out := make([][]bool, len(v.Objects))
	for i, o := range v.Objects {
		out[i] = ShownBy(v, o.Slots)
	}
	return out
}

// Reached: object by object the table is filled up by the ways that lead over that one.
func Reached(v api.View, from []uint64) []bool {
	leads := Shows(v)
	for over := range leads {
		for i := range leads {
			for k := range leads {
				leads[i][k] = leads[i][k] || leads[i][over] && leads[over][k]
			}
		}
	}
	first := ShownBy(v, from)
	out := slices.Clone(first)
	for i := range out {
		for k := range out {
			out[k] = out[k] || first[i] && leads[i][k]
		}
	}
	return out
}

// Own: the handle of an object; its generation is cut off where a handle has no room for it.
func Own(v api.View, number int) uint64 {
	return uint64(number) + v.Objects[number-1].Gen%half*half
}

// Starts: the handles from which what is live is reached: the roots that aren't 0, and those of the queue's objects.
func Starts(v api.View) []uint64 {
	out := slices.DeleteFunc(slices.Concat(v.Roots...), func(h uint64) bool { return h == 0 })
	for _, number := range v.Queue {
		if number >= 1 && number <= len(v.Objects) {
			out = append(out, Own(v, number))
		}
	}
	return out
}
