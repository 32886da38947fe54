package sweep

import (
	"midden/api"
	"midden/cells"
	"midden/heap"
	"midden/room"
	"midden/word"
)

// oldest: one more has no room in a head.
const oldest = 255

// oneOlder: an age by one, as a head has it.
const oneOlder uint64 = 1 << 8

// A sweeping is an All under way.
type sweeping struct {
	heap.Work
	sh     api.Shape
	colour int
	index  int    // which object is looked at
	seen   uint64 // its head, as it was loaded
	given  uint64 // how many objects were given back
}

func (k *sweeping) look(m *cells.Mem) (api.Step, int) {
	s := k.Load(m, heap.HeadAt(k.sh, k.index))
	k.seen = s.Had
	return s, k.goByHead()
}

func (k *sweeping) goByHead() int {
	o, colour := word.Unpack(k.seen)
	switch {
	case !o.Used:
		return k.goToNext()
	case colour != k.colour:
		return k.GoAlong(room.Give(k.sh, k.Hand(), k.index), k.countGiven)
	case o.Age == oldest:
		return k.goToNext()
	}
	return k.GoOn(k.grow)
}

func (k *sweeping) countGiven(api.Answer) int {
	k.given++
	return k.goToNext()
}

// grow: a head that has changed since it was loaded is left to whoever has changed it; an object may as well stay a cycle younger.
func (k *sweeping) grow(m *cells.Mem) (api.Step, int) {
	return k.CAS(m, heap.HeadAt(k.sh, k.index), k.seen, k.seen+oneOlder), k.goToNext()
}

func (k *sweeping) goToNext() int {
	if k.index >= k.sh.Objects {
		return k.End(k.given)
	}
	k.index++
	return k.GoOn(k.look)
}
