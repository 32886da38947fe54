package view_test

import (
	"math"
	"slices"

	"midden/api"
	"midden/trial"
)

// The chapter as plain code. Words are cut off a memory's beginning part by part, in the order of the layout, and a word's
// parts are told by division: nothing of the layers below is called.

const half = 1 << 32

func lower(w uint64) int { return int(w % half) }

// cut takes so many words off the beginning.
func cut(words *[]uint64, n int) []uint64 {
	out := slices.Clone((*words)[:n])
	*words = (*words)[n:]
	return out
}

// chain: a list as it is seen from a head's word on, and the number at which it ends. on tells the words that lead on, from
// object 1 on.
func chain(head uint64, on []uint64) ([]int, int) {
	var out []int
	n := lower(head)
	for n != 0 && n <= len(on) && !slices.Contains(out, n) {
		out = append(out, n)
		n = lower(on[n-1])
	}
	return out, n
}

func links(v api.View) []uint64 {
	var out []uint64
	for _, o := range v.Objects {
		out = append(out, o.Link)
	}
	return out
}

func nexts(v api.View) []uint64 {
	var out []uint64
	for _, o := range v.Objects {
		out = append(out, o.Next)
	}
	return out
}

// seen: what Look tells of words of the right number.
func seen(sh api.Shape, words []uint64) api.View {
	var v api.View
	head := cut(&words, 8)
	v.Phase, v.Colour, v.Round = int(head[0]%8), int(head[0]/8%2), head[0]/256
	v.Acks = cut(&words, sh.Hands)
	for range sh.Hands {
		v.Roots = append(v.Roots, cut(&words, sh.Roots))
	}
	v.Weaks = cut(&words, sh.Weaks)
	for range sh.Objects {
		w := cut(&words, 3)
		h := w[0]
		o := api.Object{Used: h%2 == 1, Live: int(h/2%2) == v.Colour, Final: h/4%2 == 1, Taken: h/8%2 == 1, Age: int(h / 256 % 256), Gen: h / half}
		o.Link, o.Next, o.Slots = w[1], w[2], cut(&words, sh.Slots)
		v.Objects = append(v.Objects, o)
	}
	v.Free, _ = chain(head[1], links(v))
	v.Grey, _ = chain(head[2], links(v))
	v.Queue, _ = chain(head[3], nexts(v))
	v.Counts = [4]uint64{head[4], head[5], head[6], head[7]}
	return v
}

// canBeSeen: are there words, from whose head on the list is seen as this one?
func canBeSeen(list []int, on []uint64) bool {
	for i, n := range list {
		if n < 1 || n > len(on) || slices.Contains(list[:i], n) {
			return false
		}
		behind := lower(on[n-1])
		isLast := i == len(list)-1
		if !isLast && behind != list[i+1] {
			return false
		}
		if isLast && behind >= 1 && behind <= len(on) && !slices.Contains(list, behind) {
			return false
		}
	}
	return true
}

// fits: has the view as many of all as the shape, and each number in its range?
func fits(sh api.Shape, v api.View) bool {
	if v.Phase < 0 || v.Phase > 7 || v.Colour < 0 || v.Colour > 1 || v.Round > math.MaxUint64/256 {
		return false
	}
	if len(v.Acks) != sh.Hands || len(v.Roots) != sh.Hands || len(v.Weaks) != sh.Weaks || len(v.Objects) != sh.Objects {
		return false
	}
	for _, r := range v.Roots {
		if len(r) != sh.Roots {
			return false
		}
	}
	for _, o := range v.Objects {
		if len(o.Slots) != sh.Slots || o.Age < 0 || o.Age > 255 || o.Gen >= half {
			return false
		}
	}
	return true
}

func first(list []int) uint64 {
	if len(list) == 0 {
		return 0
	}
	return uint64(list[0])
}

// bits: each one that is set counts as much as its place.
func bits(list ...bool) uint64 {
	var out uint64
	for i, set := range list {
		if set {
			out += 1 << i
		}
	}
	return out
}

// laid: the words that Lay tells of a view for a right shape; false, where it refuses it.
func laid(sh api.Shape, v api.View) ([]uint64, bool) {
	if !fits(sh, v) || !canBeSeen(v.Free, links(v)) || !canBeSeen(v.Grey, links(v)) || !canBeSeen(v.Queue, nexts(v)) {
		return nil, false
	}
	out := []uint64{uint64(v.Phase) + 8*uint64(v.Colour) + 256*v.Round, first(v.Free), first(v.Grey), first(v.Queue)}
	out = append(out, v.Counts[:]...)
	out = append(out, v.Acks...)
	out = append(out, slices.Concat(v.Roots...)...)
	out = append(out, v.Weaks...)
	for _, o := range v.Objects {
		isOne := o.Live == (v.Colour == 1)
		out = append(out, bits(o.Used, isOne, o.Final, o.Taken)+256*uint64(o.Age)+half*o.Gen, o.Link, o.Next)
		out = append(out, o.Slots...)
	}
	return out, true
}

// The lines of which a memory at rest is sound.
const (
	isIdle       = "the phase is Idle"
	freeWhole    = "Free is whole"
	greyWhole    = "Grey is whole"
	queueWhole   = "Queue is whole"
	greyEmpty    = "Grey is empty"
	noneUsedFree = "no object in use is on Free"
	slotsNone    = "the slots of one that is not in use are 0"
	unusedFree   = "one that is not in use is on Free or out for good"
	colours      = "each object in use has the phase's colour"
	queueUsed    = "each object on Queue is in use"
	queueFinal   = "each object on Queue has a finalizer"
	queueTaken   = "each object on Queue is taken"
	rootsGood    = "each root is 0 or good"
	weaksGood    = "each weak word is 0 or good"
	slotsGood    = "each slot of an object in use is 0 or good"
)

func lines() []string {
	return []string{isIdle, freeWhole, greyWhole, queueWhole, greyEmpty, noneUsedFree, slotsNone, unusedFree, colours,
		queueUsed, queueFinal, queueTaken, rootsGood, weaksGood, slotsGood}
}

func good(v api.View, h uint64) bool {
	for i, o := range v.Objects {
		if o.Used && h == uint64(i+1)+half*o.Gen {
			return true
		}
	}
	return false
}

func goodOrNone(v api.View, handles []uint64) bool {
	for _, h := range handles {
		if h != 0 && !good(v, h) {
			return false
		}
	}
	return true
}

// broken: the lines that don't hold of a memory.
func broken(sh api.Shape, words []uint64) []string {
	v := seen(sh, words)
	holds := map[string]bool{isIdle: v.Phase == 0, greyEmpty: len(v.Grey) == 0}
	_, end := chain(words[1], links(v))
	holds[freeWhole] = end == 0
	_, end = chain(words[2], links(v))
	holds[greyWhole] = end == 0
	_, end = chain(words[3], nexts(v))
	holds[queueWhole] = end == 0
	for _, line := range lines()[5:] {
		holds[line] = true
	}
	none := make([]uint64, sh.Slots)
	for i, o := range v.Objects {
		isFree, isQueued := slices.Contains(v.Free, i+1), slices.Contains(v.Queue, i+1)
		switch {
		case o.Used:
			holds[noneUsedFree] = holds[noneUsedFree] && !isFree
			holds[colours] = holds[colours] && o.Live
			holds[slotsGood] = holds[slotsGood] && goodOrNone(v, o.Slots)
		default:
			holds[slotsNone] = holds[slotsNone] && slices.Equal(o.Slots, none)
			holds[unusedFree] = holds[unusedFree] && (isFree || o.Gen == half-1)
		}
		holds[queueUsed] = holds[queueUsed] && (!isQueued || o.Used)
		holds[queueFinal] = holds[queueFinal] && (!isQueued || o.Final)
		holds[queueTaken] = holds[queueTaken] && (!isQueued || o.Taken)
	}
	holds[rootsGood] = goodOrNone(v, slices.Concat(v.Roots...))
	holds[weaksGood] = goodOrNone(v, v.Weaks)
	var out []string
	for _, line := range lines() {
		if !holds[line] {
			out = append(out, line)
		}
	}
	return out
}

// replayed: what Replay tells of a memory and of steps within the limits; false, where one of the first n doesn't fit.
func replayed(words []uint64, steps []api.Step, n int) ([]uint64, bool) {
	stands := map[int]uint64{}
	for at, w := range words {
		stands[at] = w
	}
	for _, s := range steps[:n] {
		had, isWord := stands[s.At]
		if had != s.Had || !isWord && s.Put != 0 {
			return nil, false
		}
		if isWord {
			stands[s.At] = s.Put
		}
	}
	out := make([]uint64, len(words))
	for at := range out {
		out[at] = stands[at]
	}
	return out, true
}

// A source makes memories and views, always the same ones.
type source struct{ trial.Source }

func newSource(n int) *source { return &source{trial.Source(n)} }
