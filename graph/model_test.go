package graph_test

import (
	"slices"

	"midden/api"
)

// The chapter as plain code: what shows what is a table, and what is reached is told by that table alone. Nothing of the
// program is called, and nothing is walked.

const half = 1 << 32

// shown: the number of the object that a handle shows, if it is good; 0, if it isn't.
func shown(v api.View, h uint64) int {
	for i, o := range v.Objects {
		if o.Used && h%half == uint64(i+1) && h/half == o.Gen {
			return i + 1
		}
	}
	return 0
}

func handle(v api.View, number int) uint64 {
	return uint64(number) + v.Objects[number-1].Gen%half*half
}

// shownBy: for each object, whether one of these handles shows it.
func shownBy(v api.View, handles []uint64) []bool {
	out := make([]bool, len(v.Objects))
	for _, h := range handles {
		if number := shown(v, h); number > 0 {
			out[number-1] = true
		}
	}
	return out
}

// table: for each object, which ones it shows.
func table(v api.View) [][]bool {
	out := make([][]bool, len(v.Objects))
	for i, o := range v.Objects {
		out[i] = shownBy(v, o.Slots)
	}
	return out
}

// reached: object by object the table is filled up by the ways that lead over that one.
func reached(v api.View, from []uint64) []bool {
	leads := table(v)
	for over := range leads {
		for i := range leads {
			for k := range leads {
				leads[i][k] = leads[i][k] || leads[i][over] && leads[over][k]
			}
		}
	}
	first := shownBy(v, from)
	out := slices.Clone(first)
	for i := range out {
		for k := range out {
			out[k] = out[k] || first[i] && leads[i][k]
		}
	}
	return out
}

func roots(v api.View) []uint64 {
	out := slices.DeleteFunc(slices.Concat(v.Roots...), func(h uint64) bool { return h == 0 })
	for _, number := range v.Queue {
		if number >= 1 && number <= len(v.Objects) {
			out = append(out, handle(v, number))
		}
	}
	return out
}

func dead(v api.View) []int {
	var out []int
	live := reached(v, roots(v))
	for i, o := range v.Objects {
		if o.Used && !live[i] {
			out = append(out, i+1)
		}
	}
	return out
}

func held(v api.View) []bool {
	var from []uint64
	for _, number := range dead(v) {
		if o := v.Objects[number-1]; o.Final && !o.Taken {
			from = append(from, handle(v, number))
		}
	}
	return reached(v, from)
}

// far: for each object, of how many numbers the shortest way from it to this one is; 0, if there is none. It is told from the
// way's end on.
func far(v api.View, to int) []int {
	out, shows := make([]int, len(v.Objects)), table(v)
	out[to-1] = 1
	for length := 1; length <= len(out); length++ {
		for i := range out {
			for k := range out {
				if out[i] == 0 && out[k] == length && shows[i][k] {
					out[i] = length + 1
				}
			}
		}
	}
	return out
}

// way: from its beginning on, each time the lowest number from which as few as can be are left.
func way(v api.View, to int) []int {
	if to < 1 || to > len(v.Objects) {
		return nil
	}
	var out []int
	left, shows := far(v, to), table(v)
	may := shownBy(v, roots(v))
	for {
		next := -1
		for i := range may {
			if may[i] && left[i] > 0 && (next < 0 || left[i] < left[next]) {
				next = i
			}
		}
		if next < 0 {
			return nil
		}
		if out = append(out, next+1); next+1 == to {
			return out
		}
		may = shows[next]
	}
}
