package trial

import "midden/api"

// The tables of layer 22 as plain code, for its own tests and for those of the layers that have its steps among theirs.

// Wiping: the table Wipe.
func Wiping(sh api.Shape, colour int, act Act) api.Answer {
	if sh.Weaks < 1 {
		act.Load(api.Phase)
	}
	wiped := uint64(0)
	for weak := range sh.Weaks {
		h := act.Load(WeakAt(sh, weak))
		if number := Number(h); number < 1 || number > sh.Objects {
			continue
		}
		if White(act.Load(HeadAt(sh, Number(h))), Upper(h), colour) && act.CAS(WeakAt(sh, weak), h, 0) {
			wiped++
		}
	}
	return Told(wiped)
}

// Gathering: the table Gather.
func Gathering(sh api.Shape, colour int, act Act) api.Answer {
	var taken []int
	for number := 1; number <= sh.Objects; number++ {
		head := act.Load(HeadAt(sh, number))
		if !IsDue(head, colour) || !act.CAS(HeadAt(sh, number), head, head^2+takenBit) {
			continue
		}
		taken = append(taken, number)
		puttingOn(api.Grey, LinkAt(sh, number), number, act)
	}
	Resting(sh, colour, act)
	for _, number := range taken {
		puttingOn(api.Queue, NextAt(sh, number), number, act)
		act.Add(api.Queued, 1)
	}
	return Told(uint64(len(taken)))
}

// IsDue: is an object with this head in use, of another colour than this one's last bit, and has it a finalizer that isn't taken?
func IsDue(head uint64, colour int) bool {
	return White(head, Upper(head), colour) && head&finalBit != 0 && head&takenBit == 0
}

// Taking: the table Take.
func Taking(sh api.Shape, act Act) api.Answer {
	for {
		queue := act.Load(api.Queue)
		number := Number(queue)
		if number < 1 || number > sh.Objects {
			return api.Answer{}
		}
		next := act.Load(NextAt(sh, number))
		if act.CAS(api.Queue, queue, Turned(queue, Number(next))) {
			return Told(Tagged(number, Upper(act.Load(HeadAt(sh, number)))))
		}
	}
}

// puttingOn: an object is put on a list; at is where it shows the one behind it.
func puttingOn(list, at, number int, act Act) {
	for {
		head := act.Load(list)
		act.Store(at, uint64(Number(head)))
		if act.CAS(list, head, Turned(head, number)) {
			return
		}
	}
}
