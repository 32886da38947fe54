package trial

import "midden/api"

// A heap's memory as plain code: where its words stand is reckoned by layer 12's chapter alone.

// SizeOf: how many words the memory of a right shape has.
func SizeOf(sh api.Shape) int {
	return 8 + sh.Hands + sh.Hands*sh.Roots + sh.Weaks + sh.Objects*(3+sh.Slots)
}

// isRight: is it a shape?
func isRight(sh api.Shape) bool {
	for _, f := range Fields() {
		if n := *f.Of(&sh); n < f.Least || n > f.Most {
			return false
		}
	}
	return true
}

// AckAt: where a hand's ack stands; -1, if there is none, and for a shape that is none.
func AckAt(sh api.Shape, hand int) int {
	if hand < 0 || hand >= sh.Hands || !isRight(sh) {
		return -1
	}
	return 8 + hand
}

// RootAt: where a hand's root stands, likewise.
func RootAt(sh api.Shape, hand, root int) int {
	if hand < 0 || hand >= sh.Hands || root < 0 || root >= sh.Roots || !isRight(sh) {
		return -1
	}
	return 8 + sh.Hands + hand*sh.Roots + root
}

// WeakAt: where a weak word stands, likewise.
func WeakAt(sh api.Shape, weak int) int {
	if weak < 0 || weak >= sh.Weaks || !isRight(sh) {
		return -1
	}
	return 8 + sh.Hands + sh.Hands*sh.Roots + weak
}

// HeadAt: where an object's head stands; -1 for a number that is none of its objects, and for a shape that is none.
func HeadAt(sh api.Shape, number int) int {
	if number < 1 || number > sh.Objects || !isRight(sh) {
		return -1
	}
	return SizeOf(sh) - (sh.Objects-number+1)*(3+sh.Slots)
}

// LinkAt, NextAt, SlotAt: where its link, its next and its slots stand, likewise.
func LinkAt(sh api.Shape, number int) int {
	if at := HeadAt(sh, number); at >= 0 {
		return at + 1
	}
	return -1
}
func NextAt(sh api.Shape, number int) int {
	if at := HeadAt(sh, number); at >= 0 {
		return at + 2
	}
	return -1
}
func SlotAt(sh api.Shape, number, slot int) int {
	if at := HeadAt(sh, number); at >= 0 && slot >= 0 && slot < sh.Slots {
		return at + 3 + slot
	}
	return -1
}

// Any: a word of all bits.
func (s *Source) Any() uint64 {
	return uint64(s.Below(half))<<32 | uint64(s.Below(half))
}

// Near: a word with a number up to n + 1 in its lower half, and often with something in its upper half.
func (s *Source) Near(n int) uint64 {
	w := uint64(s.Below(n + 2))
	switch s.Below(4) {
	case 0:
		w += s.Any() &^ (half - 1)
	case 1:
		w += half * uint64(s.Below(3))
	}
	return w
}

// One: any word, one at an end, or one that shows an object or the number behind the last one.
func (s *Source) One(sh api.Shape) uint64 {
	switch s.Below(5) {
	case 0:
		return s.Any()
	case 1:
		return s.Value()
	}
	return s.Near(sh.Objects)
}

// Words: a memory of this shape with anything in it.
func (s *Source) Words(sh api.Shape) []uint64 {
	out := make([]uint64, SizeOf(sh))
	for at := range out {
		out[at] = s.One(sh)
	}
	return out
}

// Head: an object's, most often in use; of both colours, of all ages and generations, most often those at the ends, and in half of
// them with anything in the bits that aren't looked at.
func (s *Source) Head() uint64 {
	lower := uint64(s.Below(half)) &^ 0xff01
	if s.Below(2) == 0 {
		lower &= 0xf
	}
	if s.Below(5) > 0 {
		lower |= 1
	}
	ages := []uint64{0, 1, 254, 255, uint64(s.Below(256))}
	return lower + ages[s.Below(len(ages))]*256 + Tags()[s.Below(len(Tags()))]*half
}

// UsedWords: the like, but with more objects in use, with more good handles at these places, and with Grey that shows an object
// or about one.
func (s *Source) UsedWords(sh api.Shape, shown []int) []uint64 {
	words := s.Words(sh)
	if s.Below(5) > 0 {
		words[api.Grey] = Tagged(s.Below(sh.Objects+2), Tags()[s.Below(len(Tags()))])
	}
	for number := 1; number <= sh.Objects; number++ {
		if s.Below(4) > 0 {
			words[HeadAt(sh, number)] |= 1
		}
	}
	objects := ObjectsIn(sh, words)
	for _, at := range shown {
		if s.Below(5) > 0 {
			words[at] = s.Handle(objects)
		}
	}
	return words
}

// ObjectsIn: with the generations that stand in the words.
func ObjectsIn(sh api.Shape, words []uint64) []api.Object {
	var out []api.Object
	for number := 1; number <= sh.Objects; number++ {
		out = append(out, api.Object{Gen: Upper(words[HeadAt(sh, number)])})
	}
	return out
}
