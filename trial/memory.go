package trial

import (
	"slices"

	"midden/api"
)

// A handed is what a call is given, each list with spare room behind it.
type handed struct {
	words    []uint64
	hands    [][]api.Job
	schedule []int
}

// Roomy: the same list, with some more in its spare room.
func Roomy[E any](list []E, more E) []E {
	return append(slices.Clip(slices.Clone(list)), more, more)[:len(list)]
}

func hand(words []uint64, hands [][]api.Job, schedule []int) handed {
	h := handed{Roomy(words, 77), Roomy(hands, nil), Roomy(schedule, 77)}
	for i, jobs := range h.hands {
		h.hands[i] = Roomy(jobs, api.Job{Kind: -9, A: -9})
	}
	return h
}

// Whole: a list with its spare room.
func Whole[E any](list []E) []E { return list[:cap(list)] }

func (h handed) same(o handed) bool {
	jobs := func(a, b []api.Job) bool { return slices.Equal(Whole(a), Whole(b)) }
	return slices.Equal(Whole(h.words), Whole(o.words)) && slices.Equal(Whole(h.schedule), Whole(o.schedule)) &&
		slices.EqualFunc(Whole(h.hands), Whole(o.hands), jobs)
}

// Spoil writes over an answer and over its spare room.
func Spoil[E any](list []E, with E) {
	all := Whole(list)
	for i := range all {
		all[i] = with
	}
}

// HoldMemory fails, if a call changes what it is given, if its answer shares memory, or if a call hangs on what was
// done to an earlier answer. The hands are to be such that each has an answer. (A heap's layers have no Free.)
func (l Layer) HoldMemory(t T, sh api.Shape, words []uint64, hands [][]api.Job, schedule []int, most int) {
	t.Helper()
	given, held := hand(words, hands, schedule), hand(words, hands, schedule)
	l.holdPlayMemory(t, sh, given, most)
	if l.Free != nil {
		l.holdFreeMemory(t, sh, given)
	}
	if !given.same(held) {
		t.Errorf("what was handed in has changed: %v; was %v", given, held)
	}
}

func (l Layer) holdPlayMemory(t T, sh api.Shape, given handed, most int) {
	t.Helper()
	wantX, wantA, _ := l.Model(sh, given.words, given.hands, given.schedule, most)
	for range 3 {
		x, a, e := l.Play(sh, given.words, given.hands, given.schedule, most)
		if e != api.OK || !SameTrace(x, wantX) || !SameAnswers(a, wantA) {
			t.Fatalf("Play: %v %v %v; want %v %v", x, a, e, wantX, wantA)
		}
		Spoil(x.Steps, api.Step{Hand: -5})
		Spoil(x.Words, 55)
		holdApart(t, a, wantA)
	}
}

func (l Layer) holdFreeMemory(t T, sh api.Shape, given handed) {
	t.Helper()
	first, _ := l.Fresh(sh)
	fresh := slices.Clone(first)
	Spoil(first, 55)
	for range 3 {
		w, a, e := l.Free(sh, given.hands)
		if e != api.OK || len(w) != len(given.words) || len(a) != len(given.hands) {
			t.Fatalf("Free: %v %v %v", w, a, e)
		}
		Spoil(w, 55)
		holdApart(t, a, CloneAnswers(a))
		again, _ := l.Fresh(sh)
		if !slices.Equal(fresh, again) {
			t.Fatalf("Fresh: %v; want %v", again, fresh)
		}
		Spoil(again, 55)
	}
}

// holdApart spoils one hand's answers behind the other: those of the others must stay, spoilt or not.
func holdApart(t T, a, want [][]api.Answer) {
	t.Helper()
	for h := range a {
		if !slices.Equal(a[h], want[h]) {
			t.Fatalf("the answers of hand %d share memory with those of another one: %v; want %v", h, a[h], want[h])
		}
		Spoil(a[h], api.Answer{Val: uint64(h)})
	}
	for h := range a {
		for _, x := range a[h] {
			if x != (api.Answer{Val: uint64(h)}) {
				t.Fatalf("the answers of hand %d share memory with those of a later one: %v", h, a[h])
			}
		}
	}
}

// CloneAnswers: the same answers in other memory.
func CloneAnswers(a [][]api.Answer) [][]api.Answer {
	out := slices.Clone(a)
	for h := range out {
		out[h] = slices.Clone(out[h])
	}
	return out
}
