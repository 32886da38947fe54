package trial

import (
	"math"

	"midden/api"
)

// A Field is a number of a heap's shape, and from where to where it is right.
type Field struct {
	Name        string
	Of          func(sh *api.Shape) *int
	Least, Most int
}

// Fields: all that are looked at.
func Fields() []Field {
	return []Field{
		{"Objects", func(sh *api.Shape) *int { return &sh.Objects }, 1, 64},
		{"Slots", func(sh *api.Shape) *int { return &sh.Slots }, 0, 4},
		{"Hands", func(sh *api.Shape) *int { return &sh.Hands }, 1, 7},
		{"Roots", func(sh *api.Shape) *int { return &sh.Roots }, 1, 8},
		{"Weaks", func(sh *api.Shape) *int { return &sh.Weaks }, 0, 16},
	}
}

// wrong: numbers that the field refuses; some of them pass the end of int, when they are added up or multiplied, or are
// right in their lower half alone.
func (f Field) wrong() []int {
	return append([]int{f.Least - 1, f.Least - 2, f.Most + 1, f.Most + 2, 1<<32 + f.Least, 1<<32 + f.Most, 1 << 61, 1 << 62, -1 << 62,
		math.MaxInt / 7, math.MaxInt - 7}, Ends()...)
}

// WrongShapes: each field wrong in a right shape, and each two of them.
func WrongShapes() []api.Shape {
	var out []api.Shape
	for _, sh := range RightShapes() {
		for i, f := range Fields() {
			for _, n := range f.wrong() {
				one := sh
				*f.Of(&one) = n
				out = append(out, one)
				for _, g := range Fields()[i+1:] {
					for _, m := range []int{math.MinInt, g.Least - 1, g.Most + 1, math.MaxInt} {
						two := one
						*g.Of(&two) = m
						out = append(out, two)
					}
				}
			}
		}
	}
	return append(out, api.Shape{}, api.Shape{Room: 5}, api.Shape{Objects: math.MinInt, Slots: math.MinInt, Hands: math.MinInt, Roots: math.MinInt, Weaks: math.MinInt},
		api.Shape{Objects: math.MaxInt, Slots: math.MaxInt, Hands: math.MaxInt, Roots: math.MaxInt, Weaks: math.MaxInt})
}

// RightShapes: a small one, the least and the greatest one, one without slots and one without weak words.
func RightShapes() []api.Shape {
	return []api.Shape{
		{Objects: 2, Slots: 1, Hands: 1, Roots: 2, Weaks: 1},
		{Objects: 1, Hands: 1, Roots: 1},
		{Objects: 64, Slots: 4, Hands: 7, Roots: 8, Weaks: 16},
		{Objects: 9, Slots: 0, Hands: 3, Roots: 2, Weaks: 5, Room: -1},
		{Objects: 5, Slots: 3, Hands: 2, Roots: 7, Weaks: 0, Room: math.MaxInt},
	}
}

// Shape: a right one, most often with few of all.
func (s *Source) Shape() api.Shape {
	if s.Below(12) == 0 {
		return RightShapes()[s.Below(len(RightShapes()))]
	}
	return api.Shape{Objects: 1 + s.Below(8), Slots: s.Below(4), Hands: 1 + s.Below(3), Roots: 1 + s.Below(3), Weaks: s.Below(4), Room: s.End()}
}

// SmallShape: a right one, often with so few objects that hands meet at one of them.
func (s *Source) SmallShape() api.Shape {
	sh := s.Shape()
	if s.Below(3) > 0 {
		sh.Objects = 1 + s.Below(3)
	}
	return sh
}
