package graph_test

import (
	"midden/api"
	"midden/trial"
)

// The chapter as plain code, on what trial tells of what shows what: nothing of the program is called, and nothing is walked.

const half = 1 << 32

func dead(v api.View) []int {
	var out []int
	live := trial.Reached(v, trial.Starts(v))
	for i, o := range v.Objects {
		if o.Used && !live[i] {
			out = append(out, i+1)
		}
	}
	return out
}

func held(v api.View) []bool {
	var from []uint64
	for _, number := range dead(v) {
		if o := v.Objects[number-1]; o.Final && !o.Taken {
			from = append(from, trial.Own(v, number))
		}
	}
	return trial.Reached(v, from)
}

// far: for each object, of how many numbers the shortest way from it to this one is; 0, if there is none. It is told from the
// way's end on.
func far(v api.View, to int) []int {
	out, shows := make([]int, len(v.Objects)), trial.Shows(v)
	out[to-1] = 1
	for length := 1; length <= len(out); length++ {
		for i := range out {
			for k := range out {
				if out[i] == 0 && out[k] == length && shows[i][k] {
					out[i] = length + 1
				}
			}
		}
	}
	return out
}

// way: from its beginning on, each time the lowest number from which as few as can be are left.
func way(v api.View, to int) []int {
	if to < 1 || to > len(v.Objects) {
		return nil
	}
	var out []int
	left, shows := far(v, to), trial.Shows(v)
	may := trial.ShownBy(v, trial.Starts(v))
	for {
		next := -1
		for i := range may {
			if may[i] && left[i] > 0 && (next < 0 || left[i] < left[next]) {
				next = i
			}
		}
		if next < 0 {
			return nil
		}
		if out = append(out, next+1); next+1 == to {
			return out
		}
		may = shows[next]
	}
}
