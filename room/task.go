package room

import (
	"midden/api"
	"midden/cells"
	"midden/heap"
	"midden/word"
)

// lastGen: behind it no generation is new. An object that had it stays out of use, so that no old handle becomes good again.
const lastGen uint64 = 1<<32 - 1

// A making is a Make under way.
type making struct {
	heap.Work
	sh     api.Shape
	final  bool
	colour int
	index  int
	gen    uint64
}

func (k *making) goByDrawn(told api.Answer) int {
	if !told.OK {
		return k.Refuse()
	}
	k.index = int(told.Val)
	return k.GoOn(k.look)
}

func (k *making) look(m *cells.Mem) (api.Step, int) {
	s := k.Load(m, heap.HeadAt(k.sh, k.index))
	k.gen = word.Gen(s.Had)
	return s, k.GoOn(k.use)
}

// use: who has taken an object off the list is alone with it, so its head needs no CAS.
func (k *making) use(m *cells.Mem) (api.Step, int) {
	head, _ := word.Pack(api.Object{Used: true, Live: true, Final: k.final, Gen: k.gen}, k.colour)
	return k.Store(m, heap.HeadAt(k.sh, k.index), head), k.GoOn(k.count)
}

func (k *making) count(m *cells.Mem) (api.Step, int) {
	return k.Add(m, api.Allocated, 1), k.End(word.Handle(k.index, k.gen))
}

// A giving is a Give under way.
type giving struct {
	heap.Work
	sh    api.Shape
	index int
	slot  int // the one that is wiped next
	gen   uint64
}

// wipeOrLook: there may be no slot, or none left.
func (g *giving) wipeOrLook() heap.Act {
	if heap.SlotAt(g.sh, g.index, g.slot) == heap.NoWord {
		return g.look
	}
	return g.wipe
}

func (g *giving) wipe(m *cells.Mem) (api.Step, int) {
	s := g.Store(m, heap.SlotAt(g.sh, g.index, g.slot), 0)
	g.slot++
	return s, g.GoOn(g.wipeOrLook())
}

func (g *giving) look(m *cells.Mem) (api.Step, int) {
	s := g.Load(m, heap.HeadAt(g.sh, g.index))
	g.gen = word.Gen(s.Had)
	return s, g.GoOn(g.leave)
}

// leave: with the next generation no handle of this object is good any more.
func (g *giving) leave(m *cells.Mem) (api.Step, int) {
	if g.gen == lastGen {
		return g.put(m, lastGen), g.GoOn(g.count)
	}
	return g.put(m, g.gen+1), g.GoAlong(heap.Lay(g.sh, g.Hand(), api.Free, g.index), g.countNext)
}

// put: a head that is out of use.
func (g *giving) put(m *cells.Mem, gen uint64) api.Step {
	return g.Store(m, heap.HeadAt(g.sh, g.index), word.Handle(0, gen))
}

func (g *giving) countNext(api.Answer) int { return g.GoOn(g.count) }

func (g *giving) count(m *cells.Mem) (api.Step, int) {
	return g.Add(m, api.Freed, 1), g.End(uint64(max(g.index, 0)))
}
