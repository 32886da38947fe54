package trial

import "midden/api"

// Sweeping: the table of layer 21 as plain code, for its own tests and for those of the layers that have its steps among theirs.
func Sweeping(sh api.Shape, colour int, act Act) api.Answer {
	given := uint64(0)
	for number := 1; number <= sh.Objects; number++ {
		head := act.Load(HeadAt(sh, number))
		switch isUsed := head%2 == 1; {
		case isUsed && White(head, Upper(head), colour):
			Giving(sh, number, act)
			given++
		case isUsed && head/256%256 < 255:
			act.CAS(HeadAt(sh, number), head, head+256)
		}
	}
	return Told(given)
}
