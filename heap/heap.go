// Package heap holds what the tasks on a heap's memory have in common: where its words stand, and how a task goes from act to
// act, and along another task, and how one puts an object on a list, or takes one off it. It is no layer itself.
package heap

import (
	"midden/api"
	"midden/shape"
)

// NoWord: where no memory has a word. There stands each word of a hand or an object, and each weak word, that the shape doesn't have.
const NoWord = -1

// The bits of an object's head that are turned, or set, where they stand.
const (
	ColourBit uint64 = 1 << 1
	TakenBit  uint64 = 1 << 3
)

// AckAt: where a hand's ack stands.
func AckAt(sh api.Shape, hand int) int {
	at, errno := shape.Ack(sh, hand)
	return placeIf(at, errno)
}

// RootAt: where a hand's root stands.
func RootAt(sh api.Shape, hand, root int) int {
	at, errno := shape.Root(sh, hand, root)
	return placeIf(at, errno)
}

// WeakAt: where a weak word stands.
func WeakAt(sh api.Shape, weak int) int {
	at, errno := shape.Weak(sh, weak)
	return placeIf(at, errno)
}

// HeadAt, LinkAt, NextAt, SlotAt: where these words of an object stand.
func HeadAt(sh api.Shape, index int) int {
	at, errno := shape.Object(sh, index)
	return placeIf(at, errno)
}
func LinkAt(sh api.Shape, index int) int {
	at, errno := shape.Object(sh, index)
	return placeIf(at+1, errno)
}
func NextAt(sh api.Shape, index int) int {
	at, errno := shape.Object(sh, index)
	return placeIf(at+2, errno)
}
func SlotAt(sh api.Shape, index, slot int) int {
	at, errno := shape.Slot(sh, index, slot)
	return placeIf(at, errno)
}

// IsNumber: is it a number from 1 to Objects? That alone is asked: a shape that is none has its numbers too, though their
// objects have no words.
func IsNumber(sh api.Shape, index int) bool { return index >= 1 && index <= sh.Objects }

// LastBit: what counts of a colour that may be any number.
func LastBit(colour int) int { return colour & 1 }

func placeIf(at int, errno api.Errno) int {
	if errno != api.OK {
		return NoWord
	}
	return at
}
