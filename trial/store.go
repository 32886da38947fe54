package trial

import "midden/api"

// Storing: the tables of layer 18 as plain code, for its own tests and for those of the layers that have its steps among theirs.
// at is where the word stands that is stored into.
func Storing(sh api.Shape, at int, h uint64, bar bool, colour int, act Act) api.Answer {
	if bar {
		old := act.Load(at)
		if old != 0 {
			Marking(sh, old, colour, act)
		}
		if h != 0 {
			Marking(sh, h, colour, act)
		}
	}
	act.Store(at, h)
	return Told(0)
}
