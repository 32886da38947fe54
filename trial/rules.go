package trial

import (
	"math"
	"slices"

	"midden/api"
)

// Wrong is a job that a layer refuses, and the error.
type Wrong struct {
	Job   api.Job
	Errno api.Errno
}

// Faults is what a layer refuses, beside what it takes.
type Faults struct {
	Shape  api.Shape // a good one
	Shapes []api.Shape
	Fine   api.Job
	Wrong  []Wrong
}

// RoomFaults: of a layer that looks at Room alone of a shape, up to most, and has the kinds 1 to kinds. The job that it
// takes is one of them; with another kind it is refused.
func RoomFaults(sh api.Shape, most int, fine api.Job, kinds int) Faults {
	f := Faults{Shape: sh, Fine: fine, Wrong: ofNoKind(fine, kinds)}
	for _, n := range NoRooms(most) {
		f.Shapes = append(f.Shapes, api.Shape{Objects: 1, Slots: 1, Hands: 1, Roots: 1, Weaks: 1, Room: n})
	}
	return f
}

// HeapFaults: of a layer whose shapes are a heap's, likewise.
func HeapFaults(sh api.Shape, fine api.Job, kinds int) Faults {
	return Faults{Shape: sh, Shapes: WrongShapes(), Fine: fine, Wrong: ofNoKind(fine, kinds)}
}

// ofNoKind: the job with a kind that is none of 1 to kinds.
func ofNoKind(j api.Job, kinds int) []Wrong {
	var out []Wrong
	for _, kind := range NoKinds(kinds) {
		j.Kind = kind
		out = append(out, Wrong{j, api.ErrKind})
	}
	return out
}

// A call of Play with one fault, and as many of those behind it as go along with it.
type call struct {
	name     string
	shape    api.Shape
	words    []uint64
	hands    [][]api.Job
	schedule []int
	most     int
	want     api.Errno
}

// HoldRefusals fails, if Size, Fresh, Play or Free answer another error than rule 8 asks for first, or anything
// beside it. (A heap's layers have no Free.)
func (l Layer) HoldRefusals(t T, f Faults) {
	t.Helper()
	size, errno := l.Size(f.Shape)
	if errno != api.OK {
		t.Fatalf("%v: %v", f.Shape, errno)
	}
	for _, sh := range f.Shapes {
		if n, e := l.Size(sh); n != 0 || e != api.ErrShape {
			t.Errorf("Size of %v: %d, %v", sh, n, e)
		}
		if w, e := l.Fresh(sh); w != nil || e != api.ErrShape {
			t.Errorf("Fresh of %v: %v, %v", sh, w, e)
		}
	}
	for _, c := range slices.Concat(f.ofShapes(size), f.ofSizes(size), f.ofLimits(size), f.ofJobs(size)) {
		l.holdRefused(t, c)
	}
}

func (l Layer) holdRefused(t T, c call) {
	t.Helper()
	held := slices.Clone(c.words)
	x, a, e := l.Play(c.shape, c.words, c.hands, c.schedule, c.most)
	if e != c.want || x.Steps != nil || x.Words != nil || x.Ended || a != nil {
		t.Errorf("Play, %s: %v %v %v; want %v", c.name, x, a, e, c.want)
	}
	if !slices.Equal(held, c.words) {
		t.Errorf("Play, %s: the words have changed", c.name)
	}
	if l.Free == nil || c.want == api.ErrSize || len(c.schedule) > api.MaxSteps || c.most < 0 || c.most > api.MaxSteps {
		return // Free has no such faults
	}
	if w, a, e := l.Free(c.shape, c.hands); w != nil || a != nil || e != c.want {
		t.Errorf("Free, %s: %v %v %v; want %v", c.name, w, a, e, c.want)
	}
}

// IsRefused: are these jobs, on words that are right, refused with this error, and with nothing beside it?
func (l Layer) IsRefused(sh api.Shape, words []uint64, hands [][]api.Job, most int, want api.Errno) bool {
	x, a, e := l.Play(sh, words, hands, nil, most)
	return e == want && a == nil && x.Steps == nil && x.Words == nil && !x.Ended
}

func (f Faults) many() [][]api.Job {
	bad := f.Wrong[0].Job
	return append(slices.Repeat([][]api.Job{{f.Fine}}, api.MaxHands), []api.Job{bad})
}

func (f Faults) ofShapes(size int) []call {
	var out []call
	endless := make([]int, api.MaxSteps+1)
	for _, sh := range f.Shapes {
		out = append(out,
			call{"a shape and all else", sh, make([]uint64, size+1), f.many(), endless, -1, api.ErrShape},
			call{"a shape and hands", sh, nil, f.many(), nil, 0, api.ErrShape},
			call{"a shape alone", sh, make([]uint64, size), nil, nil, 9, api.ErrShape})
	}
	return out
}

func (f Faults) ofSizes(size int) []call {
	var out []call
	for _, n := range []int{0, 1, size - 1, size + 1, 2 * size, api.MaxWords, api.MaxWords + 1} {
		out = append(out,
			call{"words and all else", f.Shape, make([]uint64, n), f.many(), make([]int, api.MaxSteps+1), -1, api.ErrSize},
			call{"words alone", f.Shape, make([]uint64, n), nil, nil, 9, api.ErrSize})
	}
	return out
}

func (f Faults) ofLimits(size int) []call {
	bad := [][]api.Job{{f.Wrong[0].Job}}
	long := slices.Repeat([]api.Job{f.Fine}, api.MaxJobs+1)
	words := make([]uint64, size)
	endless := make([]int, api.MaxSteps+1)
	return []call{
		{"hands", f.Shape, words, f.many(), nil, 0, api.ErrLong},
		{"hands without jobs", f.Shape, words, make([][]api.Job, api.MaxHands+1), nil, 0, api.ErrLong},
		{"hands and most", f.Shape, words, f.many(), nil, -1, api.ErrLong},
		{"jobs", f.Shape, words, [][]api.Job{bad[0], nil, long}, nil, 0, api.ErrLong},
		{"jobs and most", f.Shape, words, [][]api.Job{long, bad[0]}, nil, math.MinInt, api.ErrLong},
		{"a schedule", f.Shape, words, bad, endless, -1, api.ErrLong},
		{"a schedule alone", f.Shape, words, nil, endless, 9, api.ErrLong},
		{"most past its limit", f.Shape, words, bad, nil, api.MaxSteps + 1, api.ErrLong},
		{"the greatest most", f.Shape, words, nil, nil, math.MaxInt, api.ErrLong},
		{"most below 0", f.Shape, words, [][]api.Job{{f.Wrong[len(f.Wrong)-1].Job}}, nil, -1, api.ErrArg},
		{"the least most", f.Shape, words, nil, nil, math.MinInt, api.ErrArg},
	}
}

// ofJobs: each wrong job as the only one, and with each other one behind it, in its own hand and in another one.
func (f Faults) ofJobs(size int) []call {
	words := make([]uint64, size)
	var out []call
	for _, first := range f.Wrong {
		out = append(out, call{"a job", f.Shape, words, [][]api.Job{{first.Job}}, nil, 0, first.Errno})
		for _, then := range f.Wrong {
			out = append(out,
				call{"jobs of a hand", f.Shape, words, [][]api.Job{nil, {f.Fine, first.Job, then.Job}}, nil, 9, first.Errno},
				call{"jobs of two hands", f.Shape, words, [][]api.Job{{f.Fine, f.Fine, first.Job}, {then.Job}}, nil, 0, first.Errno})
		}
	}
	return out
}

// idle: hands that have nothing to do.
func idle() [][][]api.Job {
	return [][][]api.Job{nil, {}, {nil}, {nil, {}, nil}, make([][]api.Job, api.MaxHands)}
}

// HoldNothingToDo fails, if no hands, hands without jobs, or no steps give anything but the words as they are.
func (l Layer) HoldNothingToDo(t T, sh api.Shape, words []uint64, fine api.Job) {
	t.Helper()
	l.HoldNothingPlayed(t, sh, words, fine)
	for _, hands := range idle() {
		l.HoldNothingFree(t, sh, hands)
	}
}

// HoldNothingPlayed: Play's part of it.
func (l Layer) HoldNothingPlayed(t T, sh api.Shape, words []uint64, fine api.Job) {
	t.Helper()
	for _, hands := range idle() {
		for _, schedule := range [][]int{nil, {}, {3, -1}} {
			for _, most := range []int{0, 5} {
				x, a, e := l.Play(sh, words, hands, schedule, most)
				if e != api.OK || !SameTrace(x, api.Trace{Words: words, Ended: true}) || !SameAnswers(a, make([][]api.Answer, len(hands))) {
					t.Errorf("%v: %v %v %v", hands, x, a, e)
				}
			}
		}
	}
	x, a, e := l.Play(sh, words, [][]api.Job{{fine}, nil}, []int{0}, 0)
	if e != api.OK || !SameTrace(x, api.Trace{Words: words}) || !SameAnswers(a, make([][]api.Answer, 2)) {
		t.Errorf("no step: %v %v %v", x, a, e)
	}
}

// HoldNothingFree: Free's part, for a layer that doesn't take any number of hands.
func (l Layer) HoldNothingFree(t T, sh api.Shape, hands [][]api.Job) {
	t.Helper()
	fresh, _ := l.Fresh(sh)
	if w, a, e := l.Free(sh, hands); e != api.OK || !slices.Equal(w, fresh) || !SameAnswers(a, make([][]api.Answer, len(hands))) {
		t.Errorf("free, %v: %v %v %v", hands, w, a, e)
	}
}
