package view

import (
	"midden/api"
	"midden/word"
)

// lay writes a view of as many hands and objects over a memory of noughts. A number that is out of its range leaves a
// nought, or another number, in its word's place.
func (m memory) lay(v api.View) {
	m.words[api.Phase] = momentOf(v)
	m.words[api.Free] = headOf(v.Free)
	m.words[api.Grey] = headOf(v.Grey)
	m.words[api.Queue] = headOf(v.Queue)
	copy(m.counts(), v.Counts[:])
	copy(m.acks(), v.Acks)
	for hand, roots := range v.Roots {
		copy(m.roots(hand), roots)
	}
	copy(m.weaks(), v.Weaks)
	for i, o := range v.Objects {
		layObject(m.object(i+1), o, v.Colour)
	}
}

// momentOf: word.Moment makes no phases but those of the protocol; words by hand show others, so the phase is laid here.
func momentOf(v api.View) uint64 {
	w, _ := word.Moment(api.Idle, v.Colour, v.Round)
	return w | uint64(v.Phase)
}

func headOf(list []int) uint64 {
	if len(list) == 0 {
		return word.Tagged(0, 0)
	}
	return word.Tagged(list[0], 0)
}

func layObject(words []uint64, o api.Object, colour int) {
	words[headWord], _ = word.Pack(o, colour)
	words[linkWord], words[nextWord] = o.Link, o.Next
	copy(words[slotWords:], o.Slots)
}
