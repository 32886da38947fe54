package hue

import (
	"slices"

	"midden/api"
	"midden/good"
	"midden/graph"
)

// A colour is what an object is to the laws; one that is out of use has none.
type colour int

const (
	noColour colour = iota
	whiteColour
	greyColour
	blackColour
)

// A colouring is a view's objects, and the colour of each. The objects are the view's own: nothing is written there.
type colouring struct {
	objects []api.Object
	colours []colour
}

func coloured(v api.View, busy []int) colouring {
	c := colouring{v.Objects, make([]colour, len(v.Objects))}
	for i, o := range v.Objects {
		c.colours[i] = lookOf(o)
	}
	for _, waiting := range [][]int{v.Grey, busy} {
		for _, number := range waiting {
			if good.IsObject(v.Objects, number) && c.colours[number-1] == blackColour {
				c.colours[number-1] = greyColour
			}
		}
	}
	return c
}

// lookOf: its colour as long as nobody says that it waits.
func lookOf(o api.Object) colour {
	switch {
	case !o.Used:
		return noColour
	case o.Live:
		return blackColour
	default:
		return whiteColour
	}
}

func (c colouring) numbersOf(wanted colour) []int {
	var out []int
	for i, own := range c.colours {
		if own == wanted {
			out = append(out, i+1)
		}
	}
	return out
}

func (c colouring) slotsOf(wanted colour) []uint64 {
	var out []uint64
	for i, own := range c.colours {
		if own == wanted {
			out = append(out, c.objects[i].Slots...)
		}
	}
	return out
}

// whiteOf: the number of the white object that a good handle shows; 0 for any other handle.
func (c colouring) whiteOf(h uint64) int {
	number := good.Object(c.objects, h)
	if number == 0 || c.colours[number-1] != whiteColour {
		return 0
	}
	return number
}

// sheltered tells it of each object: the white ones are reached from the slots of the grey ones, where all others are taken for
// out of use, so that no way leads over them.
func (c colouring) sheltered() []bool {
	left := slices.Clone(c.objects)
	for i, own := range c.colours {
		left[i].Used = own == whiteColour
	}
	return graph.Reach(api.View{Objects: left}, c.slotsOf(greyColour))
}
