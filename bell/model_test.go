package bell_test

import (
	"fmt"
	"math"
	"slices"
	"testing"

	"midden/api"
	"midden/bell"
	"midden/trial"
	"midden/turn"
)

var bells = trial.Layer{Size: bell.Size, Fresh: bell.Fresh, Task: bell.Task, Play: bell.Play, Free: bell.Free, Table: table}

func room(n int) api.Shape { return api.Shape{Room: n} }

var ring = api.Job{Kind: bell.Ring}

// rings: hands, each with so many Rings.
func rings(each ...int) [][]api.Job {
	out := make([][]api.Job, len(each))
	for h, n := range each {
		out[h] = slices.Repeat([]api.Job{ring}, n)
	}
	return out
}

// alike: hands with as many Rings each.
func alike(hands, each int) [][]api.Job { return rings(slices.Repeat([]int{each}, hands)...) }

// let: the answer of one who was let go.
func let(v uint64) api.Answer { return api.Answer{Val: v} }

// The words, by the chapter.
const (
	here  = 0
	round = 1
)

// table is the chapter's table as plain code.
func table(sh api.Shape, _ int, _ api.Job, act trial.Act) api.Answer {
	g := act.Load(round)
	c := act(api.Add, here, 0, 1).Had
	if c+1 == uint64(sh.Room) {
		act.Store(here, 0)
		act.Store(round, g+1)
		return trial.Told(g)
	}
	for {
		if act.Load(round) != g {
			return let(g)
		}
	}
}

// ends: rounds at which counting on passes an end.
var ends = [...]uint64{0, 1, 7, 1<<32 - 1, 1<<63 - 1, 1 << 63, math.MaxUint64 - 1, math.MaxUint64}

// anyWords: so many there that some Rings more are all, or that it takes more than there are.
func anyWords(from *trial.Source, n int) []uint64 {
	out := []uint64{uint64(from.Below(n)), ends[from.Below(len(ends))]}
	switch from.Below(4) {
	case 0:
		out[here] = -uint64(from.Below(6))
	case 1:
		out[here] = uint64(n + from.Below(4))
	case 2:
		out[here] = from.Value()
	}
	return out
}

// anyJobs: Rings alone; what they don't use is any number.
func anyJobs(from *trial.Source, hands, most int) [][]api.Job {
	return from.Jobs(hands, most, func() api.Job {
		return api.Job{Kind: bell.Ring, A: from.End(), B: from.End(), C: from.Below(9), H: from.Value()}
	})
}

// A gathering is what the Rings of a run of Room hands from a fresh memory have come to so far, told by the promises and
// not by words.
type gathering struct {
	rung []int // of each hand: how many adds it has made
	over int   // how many rounds are over
}

// follow takes a step of a Ring. One that is the last of its round notes so.
func (g *gathering) follow(j *trial.Job, _ api.Step) string {
	if j.Steps == 2 {
		g.rung[j.Hand]++
	}
	k := g.rung[j.Hand]
	switch {
	case j.Steps == 2 && slices.Min(g.rung) == k:
		j.Note = 1
	case j.Steps == 4 && j.Note == 1:
		g.over++
		j.End(trial.Told(uint64(k - 1)))
	case j.Steps > 2 && j.Note == 0 && g.over == k:
		j.End(let(uint64(k - 1)))
	}
	switch {
	case g.over > k:
		return "a round is over ahead of a hand's end"
	case j.Ended && slices.Min(g.rung) < k:
		return "a Ring has ended, and a hand hasn't rung"
	}
	return ""
}

// holdOneLetsGo fails, if the answers of hands, as far as they have come, are not P9.3's.
func holdOneLetsGo(t *testing.T, answers [][]api.Answer) {
	t.Helper()
	for k := range api.MaxJobs {
		ended, lets := 0, 0
		for h, told := range answers {
			if len(told) <= k {
				continue
			}
			ended++
			if told[k].Val != uint64(k) {
				t.Fatalf("hand %d, Ring %d: %v", h, k+1, told[k])
			}
			if told[k].OK {
				lets++
			}
		}
		if lets > 1 || ended > 0 && ended == len(answers) && lets == 0 {
			t.Fatalf("Ring %d: %d have let go: %v", k+1, lets, answers)
		}
	}
}

// holdRounds plays a run of Room hands from a fresh memory, and holds it to the table, P9.2 and P9.3.
func holdRounds(t *testing.T, hands [][]api.Job, schedule []int, most int) (api.Trace, [][]api.Answer) {
	t.Helper()
	x, a := bells.HoldRun(t, room(len(hands)), make([]uint64, 2), hands, schedule, most)
	g := &gathering{rung: make([]int, len(hands))}
	trial.HoldFollowed(t, x, hands, a, g.follow)
	holdOneLetsGo(t, a)
	return x, a
}

// holdWhole is holdRounds to the end of hands with as many Rings each.
func holdWhole(t *testing.T, hands, each int, schedule []int) (api.Trace, [][]api.Answer) {
	t.Helper()
	x, a := holdRounds(t, alike(hands, each), schedule, api.MaxSteps)
	if !x.Ended || !slices.Equal(x.Words, []uint64{0, uint64(each)}) {
		t.Fatalf("%d hands, %d Rings, %v: %v, %v", hands, each, schedule, x.Ended, x.Words)
	}
	return x, a
}

// everyOrder goes through each order of the steps of hands with Rings alone.
func everyOrder(t *testing.T, sh api.Shape, words []uint64, hands [][]api.Job, hold func(schedule []int)) int {
	t.Helper()
	return bells.EveryOrder(t, sh, words, hands, func(k turn.Task) string { return fmt.Sprintf("%+v", k) }, hold)
}
