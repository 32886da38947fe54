package cells

import (
	"sync"

	"midden/api"
)

// Storm: each hand's acts by a goroutine of its own: Add and CAS-until-done alone; the words behind it.
func Storm(words []uint64, hands [][]api.Step) ([]uint64, api.Errno) {
	m, errno := New(words)
	if errno != api.OK {
		return nil, errno
	}
	if errno := checkStorm(len(words), hands); errno != api.OK {
		return nil, errno
	}
	var all sync.WaitGroup
	for _, acts := range hands {
		all.Add(1)
		go func() {
			defer all.Done()
			m.rage(acts)
		}()
	}
	all.Wait()
	return m.Words(), api.OK
}

func checkStorm(size int, hands [][]api.Step) api.Errno {
	if len(hands) > api.MaxHands {
		return api.ErrLong
	}
	for _, acts := range hands {
		if len(acts) > api.MaxSteps {
			return api.ErrLong
		}
	}
	return checkActs(size, hands)
}

// checkActs: sums and greatest ones each come out the same in every order, but not the two mixed at one word.
func checkActs(size int, hands [][]api.Step) api.Errno {
	kinds := make([]int, size) // the first act at each word, 0 where there is none yet
	mixed := false
	for _, acts := range hands {
		for _, a := range acts {
			if a.Act != api.Add && a.Act != api.CAS {
				return api.ErrKind
			}
			if a.At < 0 || a.At >= size {
				return api.ErrPlace
			}
			if kinds[a.At] == 0 {
				kinds[a.At] = a.Act
			}
			mixed = mixed || kinds[a.At] != a.Act
		}
	}
	if mixed {
		return api.ErrArg
	}
	return api.OK
}

func (m *Mem) rage(acts []api.Step) {
	for _, a := range acts {
		if a.Act == api.Add {
			m.Add(a.At, a.Put)
		} else {
			m.raise(a.At, a.Put)
		}
	}
}

// raise: a CAS that isn't done stands against a word that has grown, so this ends.
func (m *Mem) raise(at int, v uint64) {
	now := m.Load(at)
	for now < v && !m.CAS(at, now, v) {
		now = m.Load(at)
	}
}
