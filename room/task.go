package room

import (
	"midden/api"
	"midden/cells"
	"midden/heap"
	"midden/word"
)

// lastGen: behind it no generation is new. An object that had it stays out of use, so that no old handle becomes good again.
const lastGen uint64 = 1<<32 - 1

// A making is a Make under way.
type making struct {
	heap.Work
	sh     api.Shape
	final  bool
	colour int
	below  int // what the first one's link shows
	gen    uint64
}

func (k *making) find(m *cells.Mem) (api.Step, int) {
	s := k.LoadList(m, api.Free)
	if !heap.IsNumber(k.sh, k.First()) {
		return s, k.Refuse()
	}
	return s, k.GoOn(k.peek)
}

func (k *making) peek(m *cells.Mem) (api.Step, int) {
	s := k.Load(m, heap.LinkAt(k.sh, k.First()))
	k.below = word.Index(s.Had)
	return s, k.GoOn(k.take)
}

// take: the link may be stale by now, but then Free has another tag, and the CAS is not done.
func (k *making) take(m *cells.Mem) (api.Step, int) {
	s := k.TurnList(m, api.Free, k.below)
	if !s.OK {
		return s, k.GoOn(k.find)
	}
	return s, k.GoOn(k.look)
}

func (k *making) look(m *cells.Mem) (api.Step, int) {
	s := k.Load(m, heap.HeadAt(k.sh, k.First()))
	k.gen = word.Gen(s.Had)
	return s, k.GoOn(k.use)
}

// use: who has taken an object off the list is alone with it, so its head needs no CAS.
func (k *making) use(m *cells.Mem) (api.Step, int) {
	head, _ := word.Pack(api.Object{Used: true, Live: true, Final: k.final, Gen: k.gen}, k.colour)
	return k.Store(m, heap.HeadAt(k.sh, k.First()), head), k.GoOn(k.count)
}

func (k *making) count(m *cells.Mem) (api.Step, int) {
	return k.Add(m, api.Allocated, 1), k.End(word.Handle(k.First(), k.gen))
}

// A giving is a Give under way.
type giving struct {
	heap.Work
	sh    api.Shape
	index int
	slot  int // the one that is wiped next
	gen   uint64
}

// wipeOrLook: there may be no slot, or none left.
func (g *giving) wipeOrLook() heap.Act {
	if heap.SlotAt(g.sh, g.index, g.slot) == heap.NoWord {
		return g.look
	}
	return g.wipe
}

func (g *giving) wipe(m *cells.Mem) (api.Step, int) {
	s := g.Store(m, heap.SlotAt(g.sh, g.index, g.slot), 0)
	g.slot++
	return s, g.GoOn(g.wipeOrLook())
}

func (g *giving) look(m *cells.Mem) (api.Step, int) {
	s := g.Load(m, heap.HeadAt(g.sh, g.index))
	g.gen = word.Gen(s.Had)
	return s, g.GoOn(g.leave)
}

// leave: with the next generation no handle of this object is good any more.
func (g *giving) leave(m *cells.Mem) (api.Step, int) {
	next := g.meet
	gen := g.gen + 1
	if g.gen == lastGen {
		gen, next = g.gen, g.count
	}
	return g.Store(m, heap.HeadAt(g.sh, g.index), word.Handle(0, gen)), g.GoOn(next)
}

func (g *giving) meet(m *cells.Mem) (api.Step, int) {
	return g.LoadList(m, api.Free), g.GoOn(g.tie)
}

// tie: as long as the object isn't on the list, nobody else comes by its link.
func (g *giving) tie(m *cells.Mem) (api.Step, int) {
	return g.Store(m, heap.LinkAt(g.sh, g.index), uint64(g.First())), g.GoOn(g.lay)
}

func (g *giving) lay(m *cells.Mem) (api.Step, int) {
	s := g.TurnList(m, api.Free, g.index)
	if !s.OK {
		return s, g.GoOn(g.meet)
	}
	return s, g.GoOn(g.count)
}

func (g *giving) count(m *cells.Mem) (api.Step, int) {
	return g.Add(m, api.Freed, 1), g.End(uint64(max(g.index, 0)))
}
