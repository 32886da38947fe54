package trial

import (
	"iter"
	"math"

	"midden/api"
)

// A Source makes numbers, always the same ones.
type Source uint64

// Below: a number from 0 to n - 1.
func (s *Source) Below(n int) int {
	*s = *s*6364136223846793005 + 1442695040888963407
	return int(uint64(*s) >> 33 % uint64(n))
}

// End: one of Ends.
func (s *Source) End() int {
	all := Ends()
	return all[s.Below(len(all))]
}

// Value: one of Values.
func (s *Source) Value() uint64 {
	all := Values()
	return all[s.Below(len(all))]
}

// Schedule: so many numbers, most of them small, some at both ends.
func (s *Source) Schedule(n int) []int {
	out := make([]int, n)
	for i := range out {
		if out[i] = s.Below(40) - 20; s.Below(8) == 0 {
			out[i] = s.End()
		}
	}
	return out
}

// Streaks: a schedule that picks each hand for some steps in a row, so many times.
func (s *Source) Streaks(n int) []int {
	var out []int
	for range n {
		pick := s.Below(40)
		for range 1 + s.Below(15) {
			out = append(out, pick)
		}
	}
	return out
}

// Jobs: up to most for each hand, each made by itself; some hands have none.
func (s *Source) Jobs(hands, most int, job func() api.Job) [][]api.Job {
	out := make([][]api.Job, hands)
	for h := range out {
		for range s.Below(most + 1) {
			out[h] = append(out[h], job())
		}
	}
	return out
}

// Ends: numbers at both ends of int, and those below 0 that come first.
func Ends() []int {
	return []int{math.MinInt, math.MinInt + 1, -2, -1, math.MaxInt - 1, math.MaxInt}
}

// Values: words at both ends and at those of their halves. They are few, so that one often comes again.
func Values() []uint64 {
	return []uint64{0, 1, 2, 3, 1 << 32, 1<<63 - 1, 1 << 63, math.MaxUint64 - 1, math.MaxUint64}
}

// NoRooms: what is no Room from 1 to most; some of them pass the end, when they are doubled.
func NoRooms(most int) []int {
	return append([]int{0, most + 1, most + 2, 1 << 32, 1<<32 + 1, 1 << 62, 1<<63 - 32}, Ends()...)
}

// NoKinds: what is no kind from 1 to most.
func NoKinds(most int) []int {
	return append([]int{0, most + 1, most + 2, 1 << 32, 1<<32 + 1}, Ends()...)
}

// NoColours: what is neither 0 nor 1; some of them are in their lower half alone.
func NoColours() []int {
	return append([]int{-3, 2, 3, 4, 255, 1 << 32, 1<<32 + 1, -1<<32 + 1, 1 << 62}, Ends()...)
}

// Lists: all lists of so many numbers from 0 to n - 1, each a new one.
func Lists(n, length int) iter.Seq[[]int] {
	return func(yield func([]int) bool) {
		all := 1
		for range length {
			all *= n
		}
		for code := range all {
			list := make([]int, length)
			for i := range list {
				list[i], code = code%n, code/n
			}
			if !yield(list) {
				return
			}
		}
	}
}
