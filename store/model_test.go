package store_test

import (
	"testing"

	"midden/api"
	"midden/shape"
	"midden/store"
	"midden/trial"
	"midden/turn"
)

var stores = trial.Layer{Size: shape.Size, Fresh: shape.Fresh, Task: task, Play: store.Play, Table: table}

// task: a job's, made by the calls that are handed neither jobs nor errors. A C other than 0 is a barrier of any colour.
func task(sh api.Shape, hand int, j api.Job) (turn.Task, api.Errno) {
	if j.Kind == store.IntoRoot {
		return store.Root(sh, hand, j.A, j.H, j.C != 0, j.C-1), api.OK
	}
	return store.Slot(sh, hand, j.A, j.B, j.H, j.C != 0, j.C-1), api.OK
}

// table is the chapter's tables as plain code.
func table(sh api.Shape, hand int, j api.Job, act trial.Act) api.Answer {
	return trial.Storing(sh, placeOf(sh, hand, j), j.H, j.C != 0, j.C-1, act)
}

// placeOf: where the word stands that a job stores into.
func placeOf(sh api.Shape, hand int, j api.Job) int {
	if j.Kind == store.IntoRoot {
		return trial.RootAt(sh, hand, j.A)
	}
	return trial.SlotAt(sh, j.A, j.B)
}

// What a job's C says.
const (
	bare    = 0 // without the barrier
	barZero = 1 // with it, in the colour 0
	barOne  = 2 // in the colour 1
)

func intoRoot(root int, h uint64, bar int) api.Job {
	return api.Job{Kind: store.IntoRoot, A: root, C: bar, H: h}
}

func intoSlot(number, slot int, h uint64, bar int) api.Job {
	return api.Job{Kind: store.IntoSlot, A: number, B: slot, C: bar, H: h}
}

const half = 1 << 32

// Short names for what is written down again and again.
var (
	tagged     = trial.Tagged
	farNumbers = trial.FarNumbers
	with       = trial.With
	puts       = trial.Puts
	objectsIn  = trial.ObjectsIn
	told       = trial.Told(0)
)

// Three objects with two slots each, two hands with two roots each. Hand 0's roots are the words 10 and 11, hand 1's 12 and 13;
// the objects' heads are the words 14, 19 and 24; behind each stand its link, its next and its slots.
var three = api.Shape{Objects: 3, Slots: 2, Hands: 2, Roots: 2}

type cell = trial.Cell

// memory: of the shape three, with these objects and this word Grey. Roots and slots show no object.
func memory(grey uint64, objects ...cell) []uint64 {
	return trial.Memory(three, api.Grey, grey, objects...)
}

// play plays a run, and holds it to the tables.
func play(t *testing.T, sh api.Shape, words []uint64, hands [][]api.Job, schedule []int, most int) (api.Trace, [][]api.Answer) {
	t.Helper()
	return stores.HoldRun(t, sh, words, hands, schedule, most)
}

// run plays a run to its end, and holds it to nothing else.
func run(t *testing.T, sh api.Shape, words []uint64, hands [][]api.Job, schedule []int) (api.Trace, [][]api.Answer) {
	t.Helper()
	x, a, e := store.Play(sh, words, hands, schedule, api.MaxSteps)
	if e != api.OK || !x.Ended {
		t.Fatal(sh, hands, schedule, e, x.Ended)
	}
	return x, a
}

// stepsOfMark: what a Mark of a handle in the colour 1 does on words of the shape three, alone; and the words behind it.
func stepsOfMark(words []uint64, hand int, h uint64) ([]api.Step, []uint64) {
	return trial.Shading(three, words, hand, h, 1)
}

// shown: where handles stand, roots and slots.
func shown(sh api.Shape) []int {
	var out []int
	for hand := range sh.Hands {
		for root := range sh.Roots {
			out = append(out, trial.RootAt(sh, hand, root))
		}
	}
	for number := 1; number <= sh.Objects; number++ {
		for slot := range sh.Slots {
			out = append(out, trial.SlotAt(sh, number, slot))
		}
	}
	return out
}

// anyWords: any at all, but with more that is in use, and with more good handles in roots and slots.
func anyWords(from *trial.Source, sh api.Shape) []uint64 { return from.UsedWords(sh, shown(sh)) }

// anyJobs: of both kinds, with these barriers. What a kind doesn't use is any number. A hand that the shape doesn't have stores
// into slots alone.
func anyJobs(from *trial.Source, sh api.Shape, words []uint64, bars []int, hands, most int) [][]api.Job {
	objects := objectsIn(sh, words)
	out := make([][]api.Job, hands)
	for hand := range out {
		for range from.Below(most + 1) {
			bar, h := bars[from.Below(len(bars))], from.Handle(objects)
			switch hasRoots := hand < sh.Hands; {
			case hasRoots && (sh.Slots == 0 || from.Below(3) == 0):
				out[hand] = append(out[hand], api.Job{Kind: store.IntoRoot, A: from.Below(sh.Roots), B: from.End(), C: bar, H: h})
			case sh.Slots > 0:
				out[hand] = append(out[hand], intoSlot(1+from.Below(sh.Objects), from.Below(sh.Slots), h, bar))
			}
		}
	}
	return out
}

var allBars = []int{bare, barZero, barOne}

// everyOrder goes through each order of the hands' steps.
func everyOrder(t *testing.T, sh api.Shape, words []uint64, hands [][]api.Job, hold func(schedule []int)) int {
	t.Helper()
	return stores.EveryOrder(t, sh, words, hands, nil, hold)
}
