package pile_test

import (
	"slices"
	"testing"

	"midden/api"
	"midden/pile"
	"midden/trial"
)

var piles = trial.Layer{Size: pile.Size, Fresh: pile.Fresh, Task: pile.Task, Play: pile.Play, Free: pile.Free, Table: table}

func room(n int) api.Shape { return api.Shape{Room: n} }

func push(v uint64) api.Job { return api.Job{Kind: pile.Push, H: v} }

var pop = api.Job{Kind: pile.Pop}

// The words of heads and places, reckoned by the chapter alone.
const (
	top   = 0
	spare = 1
)

func link(i uint64) int  { return int(2 * i) }
func value(i uint64) int { return int(2*i + 1) }

func index(w uint64) uint64       { return w % (1 << 32) }
func tagged(i, tag uint64) uint64 { return tag<<32 + i }
func bump(w, i uint64) uint64     { return tagged(i, w>>32+1) }

// table is the chapter's tables as plain code.
func table(_ api.Shape, _ int, j api.Job, act trial.Act) api.Answer {
	if j.Kind == pile.Push {
		return pushTable(j.H, act)
	}
	return popTable(act)
}

func pushTable(h uint64, act trial.Act) api.Answer {
	i, found := takeOff(spare, act)
	if !found {
		return api.Answer{}
	}
	act.Store(value(i), h)
	layOn(top, i, act)
	return trial.Told(i)
}

func popTable(act trial.Act) api.Answer {
	i, found := takeOff(top, act)
	if !found {
		return api.Answer{}
	}
	v := act.Load(value(i))
	layOn(spare, i, act)
	return trial.Told(v)
}

func takeOff(head int, act trial.Act) (i uint64, found bool) {
	for {
		w := act.Load(head)
		if i = index(w); i == 0 {
			return 0, false
		}
		l := act.Load(link(i))
		if act.CAS(head, w, bump(w, index(l))) {
			return i, true
		}
	}
}

func layOn(head int, i uint64, act trial.Act) {
	for {
		w := act.Load(head)
		act.Store(link(i), index(w))
		if act.CAS(head, w, bump(w, i)) {
			return
		}
	}
}

// anyWords: heads and links that show places, none, and places that aren't there, with tags at both ends.
func anyWords(from *trial.Source, room int) []uint64 {
	out := make([]uint64, 2+2*room)
	tags := [...]uint64{0, 0, 1, 5, 1<<31 - 1, 1<<32 - 2, 1<<32 - 1}
	far := [...]uint64{uint64(room) + 1, uint64(room) + 2, 1<<31 - 1, 1 << 31, 1<<32 - 1}
	for w := range out {
		if w > spare && w%2 == 1 {
			out[w] = from.Value()
			continue
		}
		i := uint64(from.Below(room + 1))
		if from.Below(6) == 0 {
			i = far[from.Below(len(far))]
		}
		out[w] = tagged(i, tags[from.Below(len(tags))])
	}
	return out
}

// anyJobs: of both kinds. What a kind doesn't use is any number.
func anyJobs(from *trial.Source, hands, most int) [][]api.Job {
	return from.Jobs(hands, most, func() api.Job {
		return api.Job{Kind: pile.Push + from.Below(2), A: from.End(), B: from.End(), C: from.Below(9), H: from.Value()}
	})
}

func fresh(t *testing.T, n int) []uint64 {
	t.Helper()
	words, e := pile.Fresh(room(n))
	if e != api.OK {
		t.Fatal(n, e)
	}
	return words
}

// isLoad, isDone: of a head. Each kind of job loads the head that it takes from in its state 0 alone.
func isLoad(s api.Step, head int) bool { return s.Act == api.Load && s.At == head }
func isDone(s api.Step, head int) bool { return s.Act == api.CAS && s.At == head && s.OK }

// A stack is what lies on a pile by the jobs of runs so far, in the order of P6.2: the last one last.
type stack []uint64

// follow takes a step of a job. A job notes what it will tell: a Push its place, a Pop its value.
func (l *stack) follow(j *trial.Job, s api.Step) string {
	isPush, last := j.Kind == pile.Push, len(*l)-1
	switch {
	case isPush && isLoad(s, spare) && index(s.Had) == 0:
		j.End(api.Answer{})
	case isPush && isDone(s, spare):
		j.Note = index(s.Had)
	case isPush && isDone(s, top):
		*l = append(*l, j.H)
		j.End(trial.Told(j.Note))
	case !isPush && isLoad(s, top) && (index(s.Had) == 0) != (last < 0):
		return "something is there, and top tells nothing, or the other way"
	case !isPush && isLoad(s, top) && last < 0:
		j.End(api.Answer{})
	case !isPush && isDone(s, top) && last < 0:
		return "nothing lies there"
	case !isPush && isDone(s, top):
		j.Note, *l = (*l)[last], (*l)[:last]
	case !isPush && isDone(s, spare):
		j.End(trial.Told(j.Note))
	}
	return ""
}

// holdPile fails, if the jobs of a run are not those of a pile on which these values lie. It tells what lies there then.
func holdPile(t *testing.T, lies []uint64, x api.Trace, hands [][]api.Job, answers [][]api.Answer) []uint64 {
	t.Helper()
	l := stack(lies)
	trial.HoldFollowed(t, x, hands, answers, l.follow)
	return l
}

// holdPlaces fails, if top and spare don't lead to all places, each once. It tells the values from the top on.
func holdPlaces(t *testing.T, words []uint64) []uint64 {
	t.Helper()
	n := len(words)/2 - 1
	seen := make([]bool, n+1)
	var lie []uint64
	for _, head := range []int{top, spare} {
		for i := index(words[head]); i != 0; i = words[link(i)] {
			if i > uint64(n) || seen[i] {
				t.Fatalf("%x: place %d is none, or met twice", words, i)
			}
			seen[i] = true
			if head == top {
				lie = append(lie, words[value(i)])
			}
		}
	}
	if slices.Contains(seen[1:], false) {
		t.Fatalf("%x: a place is lost: %v", words, seen[1:])
	}
	return lie
}

// holdOn plays a run to its end on a memory with these values on the pile, and holds it to the tables, P6.2 and P6.3.
// It tells what lies there then.
func holdOn(t *testing.T, words, lies []uint64, hands [][]api.Job, schedule []int) (api.Trace, []uint64) {
	t.Helper()
	x, a := piles.HoldRun(t, room(len(words)/2-1), words, hands, schedule, api.MaxSteps)
	if !x.Ended {
		t.Fatal("no end", hands, schedule)
	}
	lies = holdPile(t, lies, x, hands, a)
	lie := holdPlaces(t, x.Words)
	slices.Reverse(lie)
	if !slices.Equal(lie, lies) {
		t.Fatalf("%v %v: %v lie there; want %v", hands, schedule, lie, lies)
	}
	return x, lies
}

// holdWhole is holdOn from a fresh memory.
func holdWhole(t *testing.T, n int, hands [][]api.Job, schedule []int) api.Trace {
	t.Helper()
	x, _ := holdOn(t, fresh(t, n), nil, hands, schedule)
	return x
}
