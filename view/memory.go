package view

import (
	"slices"

	"midden/api"
	"midden/shape"
	"midden/word"
)

// An object's words, counted from its head on.
const (
	headWord = iota
	linkWord
	nextWord
	slotWords
)

// A memory is words laid out by a shape: a right one, and just as many as it asks for.
type memory struct {
	sh    api.Shape
	words []uint64
}

func memoryOf(sh api.Shape, words []uint64) (memory, api.Errno) {
	size, errno := shape.Size(sh)
	if errno != api.OK {
		return memory{}, errno
	}
	if len(words) != size {
		return memory{}, api.ErrSize
	}
	return memory{sh, words}, api.OK
}

// The parts of a memory are pieces of its words, to be read and to be laid.
func (m memory) part(at, n int) []uint64 { return m.words[at : at+n] }

func (m memory) counts() []uint64 { return m.words[api.Allocated:api.Head] }

func (m memory) acks() []uint64 {
	at, _ := shape.Ack(m.sh, 0)
	return m.part(at, m.sh.Hands)
}

func (m memory) roots(hand int) []uint64 {
	at, _ := shape.Root(m.sh, hand, 0)
	return m.part(at, m.sh.Roots)
}

// weaks: where there are none, shape tells the place 0, and no words from there on are none too.
func (m memory) weaks() []uint64 {
	at, _ := shape.Weak(m.sh, 0)
	return m.part(at, m.sh.Weaks)
}

func (m memory) object(index int) []uint64 {
	at, _ := shape.Object(m.sh, index)
	return m.part(at, slotWords+m.sh.Slots)
}

// list: a list as it is seen from the head's word at a place, over the objects' words of this number; and the number at
// which it ends.
func (m memory) list(at, over int) (seen []int, end int) {
	end = word.Index(m.words[at])
	for end >= 1 && end <= m.sh.Objects && !slices.Contains(seen, end) {
		seen = append(seen, end)
		end = word.Index(m.object(end)[over])
	}
	return seen, end
}

func (m memory) free() ([]int, int)  { return m.list(api.Free, linkWord) }
func (m memory) grey() ([]int, int)  { return m.list(api.Grey, linkWord) }
func (m memory) queue() ([]int, int) { return m.list(api.Queue, nextWord) }
