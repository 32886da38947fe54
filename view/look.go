package view

import (
	"slices"

	"midden/api"
	"midden/word"
)

func (m memory) look() api.View {
	var v api.View
	v.Phase, v.Colour, v.Round = word.Parts(m.words[api.Phase])
	v.Acks = copied(m.acks())
	for hand := range m.sh.Hands {
		v.Roots = append(v.Roots, copied(m.roots(hand)))
	}
	v.Weaks = copied(m.weaks())
	for index := 1; index <= m.sh.Objects; index++ {
		v.Objects = append(v.Objects, objectOf(m.object(index), v.Colour))
	}
	v.Free, _ = m.free()
	v.Grey, _ = m.grey()
	v.Queue, _ = m.queue()
	copy(v.Counts[:], m.counts())
	return v
}

// objectOf: what its words show while the phase has this colour.
func objectOf(words []uint64, colour int) api.Object {
	o, own := word.Unpack(words[headWord])
	o.Live = own == colour
	o.Link, o.Next = words[linkWord], words[nextWord]
	o.Slots = copied(words[slotWords:])
	return o
}

// sameView: a nil list is an empty one.
func sameView(a, b api.View) bool {
	return a.Phase == b.Phase && a.Colour == b.Colour && a.Round == b.Round && a.Counts == b.Counts &&
		slices.Equal(a.Acks, b.Acks) && slices.EqualFunc(a.Roots, b.Roots, slices.Equal) && slices.Equal(a.Weaks, b.Weaks) &&
		slices.EqualFunc(a.Objects, b.Objects, sameObject) &&
		slices.Equal(a.Free, b.Free) && slices.Equal(a.Grey, b.Grey) && slices.Equal(a.Queue, b.Queue)
}

func sameObject(a, b api.Object) bool {
	return a.Used == b.Used && a.Live == b.Live && a.Final == b.Final && a.Taken == b.Taken && a.Age == b.Age && a.Gen == b.Gen &&
		a.Link == b.Link && a.Next == b.Next && slices.Equal(a.Slots, b.Slots)
}
