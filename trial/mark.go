package trial

import "midden/api"

// The tables of layer 20 as plain code, for its own tests and for those of the layers that have its steps among theirs.

// Scanning: the table Scan.
func Scanning(sh api.Shape, colour int, act Act) api.Answer {
	marks := uint64(0)
	mark := func(h uint64) {
		if Marking(sh, h, colour, act).OK {
			marks++
		}
	}
	for hand := range sh.Hands {
		for root := range sh.Roots {
			if h := act.Load(RootAt(sh, hand, root)); Number(h) >= 1 && Number(h) <= sh.Objects {
				mark(h)
			}
		}
	}
	number := Number(act.Load(api.Queue))
	for range sh.Objects {
		if number < 1 || number > sh.Objects {
			break
		}
		mark(Tagged(number, Upper(act.Load(HeadAt(sh, number)))))
		number = Number(act.Load(NextAt(sh, number)))
	}
	return Told(marks)
}

// Resting: the table Rest.
func Resting(sh api.Shape, colour int, act Act) api.Answer {
	pulled := uint64(0)
	for {
		told := Pulling(sh, act)
		if !told.OK {
			return Told(pulled)
		}
		pulled++
		for slot := range sh.Slots {
			if h := act.Load(SlotAt(sh, int(told.Val), slot)); Number(h) >= 1 && Number(h) <= sh.Objects {
				Marking(sh, h, colour, act)
			}
		}
	}
}
