// Package word is layer 1: see shared/doc/01-word.md.
package word

import "midden/api"

const (
	halfBits = 32
	byteBits = 8
)

// The two halves that handles and lists' heads are made of.
const (
	lowerHalf uint64 = (1<<halfBits - 1) << (halfBits * iota)
	upperHalf
)

// The bits at the foot of an object's head.
const (
	usedBit uint64 = 1 << iota
	colourBit
	finalBit
	takenBit
)

// The head's bytes: the age is the one above the bits at the foot.
const (
	_ uint64 = (1<<byteBits - 1) << (byteBits * iota)
	ageByte
)

// A phase word's bits at the foot: the phase has three, so that 5 to 7 can stand in a word by hand too.
const (
	phaseLow uint64 = 1 << iota
	phaseMiddle
	phaseHigh
	momentColourBit
	phaseBits = phaseLow | phaseMiddle | phaseHigh
)

// The greatest numbers that have room in a word.
const (
	maxAge   = int(ageByte >> byteBits)
	maxGen   = upperHalf >> halfBits
	maxRound = ^uint64(0) >> byteBits
)

// Handle: a handle of an object's number and generation. Index, Gen: back.
func Handle(index int, gen uint64) uint64 { return join(index, gen) }
func Index(h uint64) int                  { return int(h & lowerHalf) }
func Gen(h uint64) uint64                 { return h >> halfBits }

// Tagged: a head of a list: an index with a tag. Bump: another index, the tag one more.
func Tagged(index int, tag uint64) uint64 { return join(index, tag) }
func Bump(t uint64, index int) uint64     { return Tagged(index, Gen(t)+1) }

// join: what is too great for its half falls off at the upper end, so both are taken modulo 2^32.
func join(lower int, upper uint64) uint64 {
	return uint64(lower)&lowerHalf | upper<<halfBits
}

// Pack and Unpack: an object's head word (Link, Next and Slots are left out; Live: as Colour).
func Pack(o api.Object, colour int) (uint64, api.Errno) {
	if !isColour(colour) || o.Age < 0 || o.Age > maxAge || o.Gen > maxGen {
		return 0, api.ErrWord
	}
	own := colour == 1
	if !o.Live {
		own = !own
	}
	w := bitIf(o.Used, usedBit) | bitIf(own, colourBit) | bitIf(o.Final, finalBit) | bitIf(o.Taken, takenBit)
	return w | uint64(o.Age)<<byteBits | o.Gen<<halfBits, api.OK
}
func Unpack(w uint64) (o api.Object, colour int) {
	o.Used = w&usedBit != 0
	o.Final = w&finalBit != 0
	o.Taken = w&takenBit != 0
	o.Age = int((w & ageByte) >> byteBits)
	o.Gen = Gen(w)
	return o, numberOf(w, colourBit)
}

// Moment: a phase word. Parts: back.
func Moment(phase, colour int, round uint64) (uint64, api.Errno) {
	if phase < api.Idle || phase > api.Sweep || !isColour(colour) || round > maxRound {
		return 0, api.ErrWord
	}
	return uint64(phase) | bitIf(colour == 1, momentColourBit) | round<<byteBits, api.OK
}
func Parts(w uint64) (phase, colour int, round uint64) {
	return int(w & phaseBits), numberOf(w, momentColourBit), w >> byteBits
}

// White: is an object with this head in use, of this generation, and not of this colour?
func White(head, gen uint64, colour int) bool {
	return head&usedBit != 0 && Gen(head) == gen && numberOf(head, colourBit) != colour
}

func isColour(colour int) bool { return colour == 0 || colour == 1 }

func bitIf(set bool, bit uint64) uint64 {
	if set {
		return bit
	}
	return 0
}

func numberOf(w, bit uint64) int {
	if w&bit != 0 {
		return 1
	}
	return 0
}
