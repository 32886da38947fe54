package heap

import (
	"midden/api"
	"midden/cells"
	"midden/turn"
	"midden/word"
)

// Lay: a task that puts an object on a list (Free, Grey, Queue), ahead of all that stands there.
func Lay(sh api.Shape, hand, list, index int) turn.Task {
	k := &laying{index: index, behind: behindAt(sh, list, index)}
	k.list = list
	k.Begin(hand, k.meet)
	return k
}

// Draw: a task that takes the first object off a list, and tells its number; one of a list that shows no object is refused.
func Draw(sh api.Shape, hand, list int) turn.Task {
	k := &drawing{sh: sh}
	k.list = list
	k.Begin(hand, k.find)
	return k
}

// behindAt: where an object shows the one behind it. The queue leads along words of its own, for what stands on it may stand on the
// grey list too.
func behindAt(sh api.Shape, list, index int) int {
	if list == api.Queue {
		return NextAt(sh, index)
	}
	return LinkAt(sh, index)
}

// A listing is what tasks at a list have in common.
type listing struct {
	Work
	list int
	head uint64 // the list's, as it was loaded last
}

func (k *listing) loadHead(m *cells.Mem) api.Step {
	s := k.Load(m, k.list)
	k.head = s.Had
	return s
}

func (k *listing) first() int { return word.Index(k.head) }

// turnHead: the list begins with another object, if its head is still the one that was loaded. The tag grows with each turn,
// so a list that has gone on since then isn't taken for the same one.
func (k *listing) turnHead(m *cells.Mem, first int) api.Step {
	return k.CAS(m, k.list, k.head, word.Bump(k.head, first))
}

// A laying is a Lay under way.
type laying struct {
	listing
	index, behind int // the object, and where it shows the one behind it
}

func (k *laying) meet(m *cells.Mem) (api.Step, int) { return k.loadHead(m), k.GoOn(k.tie) }

// tie: as long as the object isn't on the list, it is this task's alone to say what is behind it.
func (k *laying) tie(m *cells.Mem) (api.Step, int) {
	return k.Store(m, k.behind, uint64(k.first())), k.GoOn(k.lay)
}

func (k *laying) lay(m *cells.Mem) (api.Step, int) {
	s := k.turnHead(m, k.index)
	if !s.OK {
		return s, k.GoOn(k.meet)
	}
	return s, k.End(0)
}

// A drawing is a Draw under way.
type drawing struct {
	listing
	sh    api.Shape
	below int // what the first one shows behind it
}

func (k *drawing) find(m *cells.Mem) (api.Step, int) {
	s := k.loadHead(m)
	if !IsNumber(k.sh, k.first()) {
		return s, k.Refuse()
	}
	return s, k.GoOn(k.peek)
}

func (k *drawing) peek(m *cells.Mem) (api.Step, int) {
	s := k.Load(m, behindAt(k.sh, k.list, k.first()))
	k.below = word.Index(s.Had)
	return s, k.GoOn(k.take)
}

// take: what was seen behind the first one may be stale by now, but then the head has another tag, and the CAS is not done.
func (k *drawing) take(m *cells.Mem) (api.Step, int) {
	s := k.turnHead(m, k.below)
	if !s.OK {
		return s, k.GoOn(k.find)
	}
	return s, k.End(uint64(k.first()))
}
