package cells_test

import (
	"math"
	"runtime"
	"slices"
	"testing"

	"midden/api"
	"midden/cells"
)

func TestP2_3_Examples(t *testing.T) {
	w, e := cells.Storm([]uint64{1, 4}, [][]api.Step{
		{{Act: api.Add, At: 0, Put: 2}, {Act: api.CAS, At: 1, Put: 9}},
		{{Act: api.Add, At: 0, Put: 3}, {Act: api.CAS, At: 1, Put: 6}},
	})
	if e != api.OK || !slices.Equal(w, []uint64{6, 9}) {
		t.Error(w, e)
	}
	for _, c := range []struct {
		acts []api.Step
		want api.Errno
	}{
		{[]api.Step{{Act: api.Load}}, api.ErrKind},
		{[]api.Step{{Act: api.Add, At: 2}}, api.ErrPlace},
		{[]api.Step{{Act: api.Add}, {Act: api.CAS}}, api.ErrArg},
	} {
		if w, e := cells.Storm([]uint64{1, 4}, [][]api.Step{c.acts}); len(w) != 0 || e != c.want {
			t.Error(c, w, e)
		}
	}
}

// storm is lists of acts of one kind a word, and the words that they must lead to.
func storm(from *source, words []uint64, hands, acts int) (lists [][]api.Step, want []uint64) {
	want = slices.Clone(words)
	for h := range hands {
		var list []api.Step
		for range acts {
			at := from.below(len(words))
			a := api.Step{Hand: h * 7, Act: api.Add, At: at, Had: from.value(), Put: from.value() + uint64(from.below(1000)), OK: true}
			if at%2 == 0 {
				want[at] += a.Put
			} else {
				a.Act = api.CAS
				want[at] = max(want[at], a.Put)
			}
			list = append(list, a)
		}
		lists = append(lists, list)
	}
	return lists, want
}

func TestP2_3_SumsAndGreatest(t *testing.T) {
	from := source(5)
	for round := range 200 {
		words := from.words(1 + round%9)
		lists, want := storm(&from, words, round%(api.MaxHands+1), from.below(400))
		if got, e := cells.Storm(words, lists); e != api.OK || !slices.Equal(got, want) {
			t.Fatal(round, got, want, e)
		}
	}
}

// All hands on one word: an addition that is lost, or a greatest one written over, would be seen.
func TestP2_3_OneWordForAll(t *testing.T) {
	for range 5 {
		adds, puts := make([][]api.Step, api.MaxHands), make([][]api.Step, api.MaxHands)
		for h := range api.MaxHands {
			for i := range 20000 {
				adds[h] = append(adds[h], api.Step{Act: api.Add, Put: uint64(h + 1)})
				puts[h] = append(puts[h], api.Step{Act: api.CAS, Put: uint64(i*api.MaxHands + h)})
			}
		}
		if w, e := cells.Storm([]uint64{3}, adds); e != api.OK || len(w) != 1 || w[0] != 3+20000*36 {
			t.Fatal(w, e)
		}
		if w, e := cells.Storm([]uint64{3}, puts); e != api.OK || len(w) != 1 || w[0] != 20000*api.MaxHands-1 {
			t.Fatal(w, e)
		}
	}
}

// One hand puts the greatest one amid what the others put, lesser ones, again and again: they must not write over it.
func TestP2_3_GreatestStays(t *testing.T) {
	const places, turns, greatest = 16, 200, 1 << 40
	hands := make([][]api.Step, api.MaxHands)
	for h := range hands {
		for turn := range turns {
			for at := range places {
				a := api.Step{Act: api.CAS, At: at, Put: uint64(turn*api.MaxHands + h)}
				if h == at%api.MaxHands && turn == 20+10*at {
					a.Put = greatest + uint64(at)
				}
				hands[h] = append(hands[h], a)
			}
		}
	}
	for range 60 {
		got, e := cells.Storm(make([]uint64, places), hands)
		if e != api.OK || len(got) != places {
			t.Fatal(got, e)
		}
		for at, w := range got {
			if w != greatest+uint64(at) {
				t.Fatal("at", at, "is", w)
			}
		}
	}
}

func TestP2_3_Edges(t *testing.T) {
	one := func(word uint64, acts ...api.Step) uint64 {
		t.Helper()
		w, e := cells.Storm([]uint64{word}, [][]api.Step{acts})
		if e != api.OK || len(w) != 1 {
			t.Fatal(acts, w, e)
		}
		return w[0]
	}
	if w := one(math.MaxUint64, api.Step{Act: api.Add, Put: math.MaxUint64}, api.Step{Act: api.Add, Put: 3}); w != 1 {
		t.Error("a sum past 2^64", w)
	}
	if w := one(1<<63-1, api.Step{Act: api.CAS, Put: 1 << 63}); w != 1<<63 {
		t.Error("the greatest is unsigned", w)
	}
	if w := one(math.MaxUint64, api.Step{Act: api.CAS, Had: math.MaxUint64, Put: 1}); w != math.MaxUint64 {
		t.Error("a word that is greater stays", w)
	}
	if w := one(7, api.Step{Act: api.CAS, Had: 3, Put: 7}, api.Step{Act: api.CAS, Had: 3, Put: 8}); w != 8 {
		t.Error("what a CAS expects counts for nothing in a storm", w)
	}
	if w := one(0, api.Step{Act: api.CAS, Put: 0}, api.Step{Act: api.CAS, Put: math.MaxUint64}); w != math.MaxUint64 {
		t.Error(w)
	}
	for _, hands := range [][][]api.Step{nil, {}, {nil, {}, nil}} {
		if w, e := cells.Storm([]uint64{4, 5}, hands); e != api.OK || !slices.Equal(w, []uint64{4, 5}) {
			t.Error("nobody acts", w, e)
		}
		if w, e := cells.Storm(nil, hands); e != api.OK || len(w) != 0 {
			t.Error("no words", w, e)
		}
	}
}

func TestP2_3_Limits(t *testing.T) {
	long := make([]api.Step, api.MaxSteps+1)
	for i := range long {
		long[i] = api.Step{Act: api.Add, At: api.MaxWords - 1, Put: 1}
	}
	full := make([][]api.Step, api.MaxHands+1)
	for h := range full {
		full[h] = long[:api.MaxSteps]
	}
	words := make([]uint64, api.MaxWords+1)
	w, e := cells.Storm(words[:api.MaxWords], full[:api.MaxHands])
	if e != api.OK || len(w) != api.MaxWords || w[api.MaxWords-1] != api.MaxHands*api.MaxSteps {
		t.Error(len(w), e)
	}
	for name, c := range map[string]struct {
		words []uint64
		hands [][]api.Step
	}{
		"words":            {words, nil},
		"hands":            {nil, make([][]api.Step, api.MaxHands+1)},
		"acts":             {words[:api.MaxWords], [][]api.Step{nil, long}},
		"ahead of ErrKind": {words[:1], [][]api.Step{{{Act: api.Load}}, nil, long}},
	} {
		if w, e := cells.Storm(c.words, c.hands); len(w) != 0 || e != api.ErrLong {
			t.Error(name, len(w), e)
		}
	}
}

// The first error in the chapter's order: ErrLong; act by act ErrKind, then ErrPlace; and ErrArg behind all acts.
func TestP2_3_OrderOfErrors(t *testing.T) {
	add, cas := api.Step{Act: api.Add, Put: 1}, api.Step{Act: api.CAS, Put: 1}
	kind, place := api.Step{Act: api.Store}, api.Step{Act: api.CAS, At: 2}
	both := api.Step{Act: 0, At: -1}
	for i, c := range []struct {
		hands [][]api.Step
		want  api.Errno
	}{
		{[][]api.Step{{kind, place}}, api.ErrKind},
		{[][]api.Step{{place, kind}}, api.ErrPlace},
		{[][]api.Step{{both}}, api.ErrKind},
		{[][]api.Step{{add}, {place}, {kind}}, api.ErrPlace},
		{[][]api.Step{{add}, {kind}, {place}}, api.ErrKind},
		{[][]api.Step{{add, cas, kind}}, api.ErrKind},
		{[][]api.Step{{add, cas}, {place}}, api.ErrPlace},
		{[][]api.Step{{add, cas}, {add}}, api.ErrArg},
		{[][]api.Step{{cas}, nil, {add}}, api.ErrArg},
		{[][]api.Step{{cas}, {cas}}, api.OK},
		{[][]api.Step{{cas, {Act: api.Add, At: 1}}}, api.OK},
	} {
		w, e := cells.Storm([]uint64{5, 6}, c.hands)
		if e != c.want || e != api.OK && len(w) != 0 {
			t.Errorf("%d: %v, %v; want %v", i, w, e, c.want)
		}
	}
	for _, act := range append([]int{api.Load, api.Store, api.Swap, 0, 6}, ends[:]...) {
		if w, e := cells.Storm([]uint64{5}, [][]api.Step{{{Act: act}}}); len(w) != 0 || e != api.ErrKind {
			t.Error(act, w, e)
		}
	}
	for _, at := range append([]int{1, 2, 1 << 32}, ends[:]...) {
		for _, act := range []int{api.Add, api.CAS} {
			if w, e := cells.Storm([]uint64{5}, [][]api.Step{{{Act: act, At: at}}}); len(w) != 0 || e != api.ErrPlace {
				t.Error(at, w, e)
			}
		}
	}
}

func TestP2_3_LeavesItsArguments(t *testing.T) {
	words := []uint64{1, 2, 3}
	acts := []api.Step{{Hand: 3, Act: api.Add, Had: 4, Put: 5}, {Act: api.CAS, At: 1, Put: 6, OK: true}, {Put: 9}}
	heldWords, heldActs := slices.Clone(words), slices.Clone(acts)
	got, e := cells.Storm(words[:2], [][]api.Step{acts[:2], acts[:1]})
	if e != api.OK || !slices.Equal(got, []uint64{11, 6}) {
		t.Error(got, e)
	}
	got[0] = 77
	_ = append(got, 78)
	if !slices.Equal(words, heldWords) || !slices.Equal(acts, heldActs) {
		t.Error(words, acts)
	}
}

// All goroutines have ended when the call answers. (One that has told so may need a moment to be gone.)
func TestP2_3_NobodyLeft(t *testing.T) {
	before := runtime.NumGoroutine()
	from := source(6)
	for range 50 {
		words := from.words(3)
		lists, _ := storm(&from, words, api.MaxHands, 50)
		cells.Storm(words, lists)
	}
	for range 1000000 {
		if runtime.NumGoroutine() <= before {
			return
		}
		runtime.Gosched()
	}
	t.Error(before, runtime.NumGoroutine())
}
