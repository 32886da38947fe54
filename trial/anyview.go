package trial

import (
	"math"

	"midden/api"
	"midden/word"
)

// View: any view at all, of up to most objects: lists of any length, and in all that shows objects numbers and handles that do,
// and others beside them. In some views no object is in use, in some all of them.
func (s *Source) View(most int) api.View {
	v := api.View{Phase: s.End(), Colour: s.End(), Round: s.Value(), Objects: make([]api.Object, s.Below(most+1))}
	used := s.Below(6)
	for i := range v.Objects {
		v.Objects[i] = s.object()
		v.Objects[i].Used = used > 3 || used > 0 && s.Below(4) > 0
	}
	for i := range v.Objects {
		v.Objects[i].Slots = s.handles(v.Objects, s.Below(6))
	}
	for range s.Below(4) {
		v.Roots = append(v.Roots, s.handles(v.Objects, s.Below(4)))
	}
	v.Acks, v.Weaks = s.handles(v.Objects, s.Below(4)), s.handles(v.Objects, s.Below(4))
	v.Free, v.Grey, v.Queue = s.Numbers(len(v.Objects)), s.Numbers(len(v.Objects)), s.Numbers(len(v.Objects))
	for i := range v.Counts {
		v.Counts[i] = s.Value()
	}
	return v
}

// Gens: generations at both ends, and those that no handle has room for.
func Gens() []uint64 {
	return []uint64{0, 1, 2, 1<<32 - 2, 1<<32 - 1, 1 << 32, 1<<32 + 1, 1 << 63, math.MaxUint64}
}

func (s *Source) object() api.Object {
	o := api.Object{Live: s.Below(2) == 0, Final: s.Below(2) == 0, Taken: s.Below(3) == 0, Age: s.End(), Link: s.Value(), Next: s.Value()}
	if s.Below(2) == 0 {
		o.Gen = Gens()[s.Below(len(Gens()))]
	}
	return o
}

// Handle: most often an object's own, else of another generation or of the number behind the last one, a nought, or any.
func (s *Source) Handle(objects []api.Object) uint64 {
	number := 1 + s.Below(len(objects)+1)
	var gen uint64
	if number <= len(objects) {
		gen = objects[number-1].Gen
	}
	switch s.Below(8) {
	case 0:
		return 0
	case 1:
		return s.Value()
	case 2:
		gen += uint64(s.Below(3)) - 1
	case 3:
		gen = Gens()[s.Below(len(Gens()))]
	}
	return word.Handle(number, gen)
}

func (s *Source) handles(objects []api.Object, n int) []uint64 {
	out := make([]uint64, n)
	for i := range out {
		out[i] = s.Handle(objects)
	}
	return out
}

// Numbers: some from 1 to n, and some beside them; often none.
func (s *Source) Numbers(n int) []int {
	out := make([]int, s.Below(4)*s.Below(2))
	for i := range out {
		if out[i] = s.Below(n + 2); s.Below(6) == 0 {
			out[i] = s.End()
		}
	}
	return out
}
