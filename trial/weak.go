package trial

import "midden/api"

// The tables of layer 19 as plain code, for its own tests and for those of the layers that have its steps among theirs.

// Setting: the table Set.
func Setting(sh api.Shape, weak int, h uint64, act Act) api.Answer {
	act.Store(WeakAt(sh, weak), h)
	return Told(h)
}

// Getting: the table Get.
func Getting(sh api.Shape, weak, phase, colour int, act Act) api.Answer {
	h := act.Load(WeakAt(sh, weak))
	switch {
	case h != 0 && (phase == api.Arm || phase == api.Mark):
		Marking(sh, h, colour, act)
	case h != 0 && phase == api.Close:
		isWhite := White(act.Load(HeadAt(sh, Number(h))), Upper(h), colour)
		if isWhite || act.Load(WeakAt(sh, weak)) != h {
			return api.Answer{Val: 1}
		}
	}
	return Told(h)
}
