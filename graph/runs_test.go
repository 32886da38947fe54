package graph_test

import (
	"slices"
	"testing"

	"midden/api"
	"midden/cells"
	"midden/graph"
	"midden/shape"
	"midden/trial"
	"midden/turn"
	"midden/view"
)

// Memories that runs of the layers below leave, as they are seen.

// The chapter's three objects, made by a hand: 1 shows 2, 2 shows 2, 3 shows 1, and 3 has a finalizer; 1 is in root 1 alone.
func TestP14_1_ARunByHand(t *testing.T) {
	sh := api.Shape{Objects: 4, Slots: 1, Hands: 1, Roots: 3}
	words, _ := shape.Fresh(sh)
	jobs := []api.Job{
		{Kind: api.New, A: 1}, {Kind: api.New, A: 0}, {Kind: api.New, A: 2, B: 1},
		{Kind: api.Put, A: 1, C: 0}, {Kind: api.Put, A: 0, C: 0}, {Kind: api.Put, A: 2, C: 1}, {Kind: api.Drop, A: 0},
	}
	x, _, _ := trial.Heap().Model(sh, words, [][]api.Job{jobs}, nil, 200)
	v := trial.LookAt(t, sh, x.Words)
	if slices.Contains(graph.Live(v)[:3], false) || graph.Live(v)[3] || len(graph.Dead(v)) > 0 {
		t.Error("while 3 is in a root:", graph.Live(v), graph.Dead(v))
	}
	x, _, _ = trial.Heap().Model(sh, x.Words, [][]api.Job{{{Kind: api.Drop, A: 2}}}, nil, 200)
	v = trial.LookAt(t, sh, x.Words)
	holdView(t, v)
	if !slices.Equal(graph.Live(v), []bool{true, true, false, false}) || !slices.Equal(graph.Dead(v), []int{3}) ||
		!slices.Equal(graph.Way(v, 2), []int{1, 2}) || !slices.Equal(graph.Held(v), []bool{true, true, true, false}) || !slices.Equal(graph.Roots(v), []uint64{1}) {
		t.Error(graph.Live(v), graph.Dead(v), graph.Way(v, 2), graph.Held(v), graph.Roots(v))
	}
	// Dropped onto the queue, the ring of 1 alone begins at it.
	x, _, _ = trial.Heap().Model(sh, x.Words, [][]api.Job{{{Kind: api.Drop, A: 1, B: 1}}}, nil, 200)
	v = trial.LookAt(t, sh, x.Words)
	holdView(t, v)
	if !slices.Equal(graph.Roots(v), []uint64{1}) || !slices.Equal(graph.Way(v, 2), []int{1, 2}) || !slices.Equal(v.Queue, []int{1}) {
		t.Error(graph.Roots(v), graph.Way(v, 2), v.Queue)
	}
}

// Hands that make objects, let them show one another and drop them: behind each step of each run.
func TestP14_1_MemoriesOfRuns(t *testing.T) {
	from := trial.Source(21)
	dead, queued, ways := 0, 0, 0
	for range 200 {
		sh := api.Shape{Objects: 2 + from.Below(15), Slots: 1 + from.Below(2), Hands: 1 + from.Below(2), Roots: 1 + from.Below(3)}
		words := from.Older(sh)
		x, _, e := trial.Heap().Model(sh, words, from.HeapJobs(sh, 30), from.Schedule(60), 1000)
		if e != api.OK || !x.Ended {
			t.Fatal(x, e)
		}
		for n := range len(x.Steps) + 1 {
			behind, e := view.Replay(words, x.Steps, n)
			if e != api.OK {
				t.Fatal(e)
			}
			v := trial.LookAt(t, sh, behind)
			holdView(t, v)
			holdLaws(t, v)
			dead += len(graph.Dead(v))
			queued += len(v.Queue)
			for to := range v.Objects {
				if len(graph.Way(v, to+1)) > 1 {
					ways++
				}
			}
		}
	}
	if min(dead, queued, ways) < 500 {
		t.Errorf("dead %d, queued %d, ways of more than one %d", dead, queued, ways)
	}
}

// Acts of any kind at any word, by a schedule and as a script.
func TestP14_1_MemoriesOfActs(t *testing.T) {
	from := trial.Source(22)
	for range 400 {
		sh := from.Shape()
		words := from.Older(sh)
		objects := trial.LookAt(t, sh, words).Objects
		for at := api.Head; at < len(words); at++ {
			if from.Below(2) == 0 {
				words[at] |= from.Handle(objects)
			}
		}
		hands := from.Jobs(3, 20, func() api.Job {
			return api.Job{Kind: api.Load + from.Below(5), A: from.Below(len(words)), B: from.Below(2), H: from.Handle(objects)}
		})
		x, _, e := turn.Acts(words, hands, from.Schedule(20), 100)
		if e != api.OK {
			t.Fatal(e)
		}
		_, scripted, e := cells.Script(words, x.Steps)
		if e != api.OK {
			t.Fatal(e)
		}
		for _, behind := range [][]uint64{words, x.Words, scripted} {
			v := trial.LookAt(t, sh, behind)
			holdView(t, v)
			holdLaws(t, v)
		}
	}
}

// Fresh memories: nothing is in use.
func TestP14_1_FreshMemories(t *testing.T) {
	for _, sh := range trial.RightShapes() {
		words, _ := shape.Fresh(sh)
		v := trial.LookAt(t, sh, words)
		holdView(t, v)
		if len(graph.Live(v)) != sh.Objects || slices.Contains(graph.Live(v), true) || len(graph.Roots(v))+len(graph.Dead(v)) > 0 {
			t.Errorf("%+v: %v %v %v", sh, graph.Live(v), graph.Roots(v), graph.Dead(v))
		}
	}
}
