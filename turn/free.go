package turn

import (
	"sync"

	"midden/api"
	"midden/cells"
)

// Free: each hand a goroutine, until all have ended.
func Free(words []uint64, hands [][]api.Job, maker Maker) ([]uint64, [][]api.Answer, api.Errno) {
	m, errno := cells.New(words)
	if errno != api.OK {
		return nil, nil, errno
	}
	if errno := checkHands(hands); errno != api.OK {
		return nil, nil, errno
	}
	tasks, errno := makeTasks(hands, maker)
	if errno != api.OK {
		return nil, nil, errno
	}
	answers := make([][]api.Answer, len(tasks))
	var all sync.WaitGroup
	for h, own := range tasks {
		all.Add(1)
		go func() {
			defer all.Done()
			answers[h] = finishAll(own, m)
		}()
	}
	all.Wait()
	return m.Words(), answers, api.OK
}

func finishAll(tasks []Task, m *cells.Mem) []api.Answer {
	answers := make([]api.Answer, 0, len(tasks))
	for _, t := range tasks {
		finish(t, m)
		answers = append(answers, t.Answer())
	}
	return answers
}

// patience is how many steps of one task a hand makes before it rests: a task of so many mostly waits for a
// word that another hand must turn.
const patience = 1024

func finish(t Task, m *cells.Mem) {
	for steps := 1; ; steps++ {
		if _, state := t.Step(m); state == Ended {
			return
		}
		if steps%patience == 0 {
			rest()
		}
	}
}

// rest lets the others by: with fewer processors than hands, the one that is waited for may have none, and
// would get this one only when the time of who waits is up. It takes two: the goroutine begun last is served
// at once, but the one begun ahead of it only behind all that stand in line.
func rest() {
	var two sync.WaitGroup
	for range 2 {
		two.Go(func() {})
	}
	two.Wait()
}
