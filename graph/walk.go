package graph

import (
	"slices"

	"midden/api"
	"midden/good"
)

// What a walk tells of an object, beside the number of the one ahead of it.
const (
	notReached = 0
	atStart    = -1
)

// walked tells of each object that is reached from these handles, which one stands ahead of it on its way: of its shortest
// ways the one that is least at the first place where they differ. (The objects stand in a line in the order of those ways,
// and each of them puts what nobody has shown ahead of it behind the line's end, by rising number: so whoever comes to an
// object first comes by the way that is wanted.)
func walked(objects []api.Object, from []uint64) []int {
	aheads := make([]int, len(objects))
	var line []int
	walk := func(ahead int, handles []uint64) {
		end := len(line)
		for _, h := range handles {
			if number := good.Object(objects, h); number != 0 && aheads[number-1] == notReached {
				aheads[number-1] = ahead
				line = append(line, number)
			}
		}
		slices.Sort(line[end:])
	}
	walk(atStart, from)
	for at := 0; at < len(line); at++ {
		walk(line[at], objects[line[at]-1].Slots)
	}
	return aheads
}
