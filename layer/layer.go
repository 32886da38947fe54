// Package layer holds what the layers of tasks do alike, each by its own Size, Fresh and Task. It is no layer
// itself.
package layer

import (
	"midden/api"
	"midden/turn"
)

// A Size is a layer's call that tells how many words its memory has.
type Size func(sh api.Shape) (int, api.Errno)

// A Fresh is a layer's call that tells a memory at its beginning.
type Fresh func(sh api.Shape) ([]uint64, api.Errno)

// A Task is a layer's call that makes the task of a hand's job.
type Task func(sh api.Shape, hand int, j api.Job) (turn.Task, api.Errno)

// CheckRoom: for the layers that look at Room alone of a shape.
func CheckRoom(sh api.Shape, most int) api.Errno {
	if sh.Room < 1 || sh.Room > most {
		return api.ErrShape
	}
	return api.OK
}

// Play: rule 8 has the shape and the number of words ahead of all that turn looks at.
func Play(size Size, task Task, sh api.Shape, words []uint64, hands [][]api.Job, schedule []int, most int) (api.Trace, [][]api.Answer, api.Errno) {
	want, errno := size(sh)
	if errno != api.OK {
		return api.Trace{}, nil, errno
	}
	if len(words) != want {
		return api.Trace{}, nil, api.ErrSize
	}
	return turn.Play(words, hands, schedule, most, makerOf(task, sh))
}

// Free: the same on fresh words, by goroutines.
func Free(fresh Fresh, task Task, sh api.Shape, hands [][]api.Job) ([]uint64, [][]api.Answer, api.Errno) {
	words, errno := fresh(sh)
	if errno != api.OK {
		return nil, nil, errno
	}
	return turn.Free(words, hands, makerOf(task, sh))
}

func makerOf(task Task, sh api.Shape) turn.Maker {
	return func(hand int, j api.Job) (turn.Task, api.Errno) { return task(sh, hand, j) }
}
