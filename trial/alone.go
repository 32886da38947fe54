package trial

import (
	"slices"

	"midden/api"
)

// Alone: the table of chapter 26 as plain code: what one hand's jobs come to without a collector, without weak words and finalizers, and
// without a memory's words. Each node that was made is what its slots show, each root likewise: the number of a node, or -1.
func Alone(sh api.Shape, jobs []api.Job) (nodes [][]int, roots []int, told []api.Answer) {
	roots = slices.Repeat([]int{-1}, sh.Roots)
	for _, j := range jobs {
		told = append(told, api.Answer{OK: true})
		answer := &told[len(told)-1]
		if j.Kind == api.New {
			roots[j.A] = len(nodes)
			nodes = append(nodes, slices.Repeat([]int{-1}, sh.Slots))
			answer.Val = uint64(len(nodes))
			continue
		}
		if isInside := j.Kind == api.Get || j.Kind == api.Put; isInside && roots[j.A] < 0 {
			*answer = api.Answer{}
			continue
		}
		shown := -1
		switch j.Kind {
		case api.Get:
			shown = nodes[roots[j.A]][j.B]
			roots[j.C] = shown
		case api.Put:
			if j.C >= 0 {
				shown = roots[j.C]
			}
			nodes[roots[j.A]][j.B] = shown
		case api.Copy:
			shown = roots[j.A]
			roots[j.C] = shown
		case api.Drop:
			roots[j.A] = -1
		}
		answer.Val = uint64(shown + 1)
	}
	return nodes, roots, told
}
