package shape

import (
	"strconv"

	"midden/api"
)

// What the words at a memory's head are called.
var headNames = [api.Head]string{
	api.Phase:     "phase",
	api.Free:      "free",
	api.Grey:      "grey",
	api.Queue:     "queue",
	api.Allocated: "allocated",
	api.Freed:     "freed",
	api.Queued:    "queued",
	api.Cycles:    "cycles",
}

// Name: what stands at a word, as a text.
func Name(sh api.Shape, at int) (string, api.Errno) {
	size, errno := Size(sh)
	if errno != api.OK {
		return "", errno
	}
	if !isNumber(at, size) {
		return "", api.ErrPlace
	}
	return nameOf(sh, at), api.OK
}

func nameOf(sh api.Shape, at int) string {
	acks, roots, weaks, objects := ackAt(0), rootAt(sh, 0, 0), weakAt(sh, 0), objectAt(sh, 1)
	switch {
	case at < acks:
		return headNames[at]
	case at < roots:
		return numbered("ack", at-acks)
	case at < weaks:
		return numbered("root", (at-roots)/sh.Roots, (at-roots)%sh.Roots)
	case at < objects:
		return numbered("weak", at-weaks)
	}
	each := objectWords(sh)
	return objectWordName((at-objects)/each+1, (at-objects)%each)
}

// objectWordName: of a word of an object, counted from its head on.
func objectWordName(index, n int) string {
	switch n {
	case 0:
		return numbered("head", index)
	case linkWord:
		return numbered("link", index)
	case nextWord:
		return numbered("next", index)
	}
	return numbered("slot", index, n-slotWords)
}

func numbered(part string, numbers ...int) string {
	for _, n := range numbers {
		part += " " + strconv.Itoa(n)
	}
	return part
}
