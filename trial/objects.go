package trial

import "midden/api"

// The tables of layer 17 as plain code, for its own tests and for those of the layers that have its steps among theirs.

// Making: the table Make.
func Making(sh api.Shape, final bool, colour int, act Act) api.Answer {
	var free, link uint64
	number := 0
	for done := false; !done; {
		free = act.Load(api.Free)
		number = Number(free)
		if number < 1 || number > sh.Objects {
			return api.Answer{}
		}
		link = act.Load(LinkAt(sh, number))
		done = act.CAS(api.Free, free, Turned(free, Number(link)))
	}
	gen := Upper(act.Load(HeadAt(sh, number)))
	head := 1 + gen*half
	if colour != 0 {
		head += 2
	}
	if final {
		head += 4
	}
	act.Store(HeadAt(sh, number), head)
	act.Add(api.Allocated, 1)
	return Told(Tagged(number, gen))
}

// Giving: the table Give.
func Giving(sh api.Shape, number int, act Act) api.Answer {
	for slot := 0; SlotAt(sh, number, slot) >= 0; slot++ {
		act.Store(SlotAt(sh, number, slot), 0)
	}
	gen := Upper(act.Load(HeadAt(sh, number)))
	isLast := gen == half-1
	if !isLast {
		gen++
	}
	act.Store(HeadAt(sh, number), gen*half)
	if !isLast {
		puttingOn(api.Free, LinkAt(sh, number), number, act)
	}
	act.Add(api.Freed, 1)
	return Told(uint64(max(number, 0)))
}
