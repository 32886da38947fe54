package trial

import "midden/api"

// The tables of layer 16 as plain code, for its own tests and for those of the layers that have its steps among theirs.

// Number, Upper: the halves of a word.
func Number(w uint64) int   { return int(w % half) }
func Upper(w uint64) uint64 { return w / half }

// Turned: a list's head that shows another number, with the next tag. Of the number, which may be any, it has the lower half.
func Turned(head uint64, number int) uint64 {
	return uint64(number)%half + (Upper(head)+1)%half*half
}

// White: is an object with this head in use, of this generation, and of another colour than this one's last bit?
func White(head, gen uint64, colour int) bool {
	return head%2 == 1 && Upper(head) == gen && (head/2%2 == 1) != (colour%2 != 0)
}

// Marking: the table Mark.
func Marking(sh api.Shape, h uint64, colour int, act Act) api.Answer {
	number := Number(h)
	for {
		head := act.Load(HeadAt(sh, number))
		if !White(head, Upper(h), colour) {
			return api.Answer{}
		}
		if act.CAS(HeadAt(sh, number), head, head^2) {
			break
		}
	}
	puttingOn(api.Grey, LinkAt(sh, number), number, act)
	return Told(uint64(number))
}

// Pulling: the table Pull.
func Pulling(sh api.Shape, act Act) api.Answer {
	for {
		grey := act.Load(api.Grey)
		number := Number(grey)
		if number < 1 || number > sh.Objects {
			return api.Answer{}
		}
		link := act.Load(LinkAt(sh, number))
		if act.CAS(api.Grey, grey, Turned(grey, Number(link))) {
			return Told(uint64(number))
		}
	}
}
