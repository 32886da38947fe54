package cells_test

import (
	"math"
	"slices"
	"testing"

	"midden/api"
	"midden/cells"
)

// act is one act on a plain list of words, told as the chapter tells it: the model that Do and Script are held against.
func act(words []uint64, a api.Step) api.Step {
	s := api.Step{Hand: a.Hand, Act: a.Act, At: a.At, OK: true}
	switch a.Act {
	case api.Load, api.Store, api.Swap, api.Add, api.CAS:
	default:
		s.Act = api.Load
	}
	if a.At < 0 || a.At >= len(words) {
		s.OK = s.Act != api.CAS
		return s
	}
	w := &words[a.At]
	s.Had = *w
	switch s.Act {
	case api.Store, api.Swap:
		*w = a.Put
	case api.Add:
		*w += a.Put
	case api.CAS:
		if s.OK = *w == a.Had; s.OK {
			*w = a.Put
		}
	}
	s.Put = *w
	return s
}

// A source makes numbers, always the same ones.
type source uint64

func (s *source) below(n int) int {
	*s = *s*6364136223846793005 + 1442695040888963407
	return int(uint64(*s) >> 33 % uint64(n))
}

// values are few, so that a CAS often finds what it expects, and sums pass 2^64.
var values = [...]uint64{0, 1, 2, 1 << 32, 1<<63 - 1, 1 << 63, math.MaxUint64 - 1, math.MaxUint64}

func (s *source) value() uint64 { return values[s.below(len(values))] }

func (s *source) words(n int) []uint64 {
	out := make([]uint64, n)
	for i := range out {
		out[i] = s.value()
	}
	return out
}

var ends = [...]int{math.MinInt, math.MinInt + 1, -2, -1, math.MaxInt - 1, math.MaxInt}

// place is mostly a word, at times one just past the end, or far from all.
func (s *source) place(size int) int {
	if s.below(10) == 0 {
		return ends[s.below(len(ends))]
	}
	return s.below(size + 2)
}

// kind is mostly one of the five, at times none of them.
func (s *source) kind() int {
	if s.below(12) == 0 {
		return append([]int{0, 6, 77}, ends[:]...)[s.below(3+len(ends))]
	}
	return api.Load + s.below(5)
}

func (s *source) act(size int) api.Step {
	hand := s.below(9)
	if s.below(10) == 0 {
		hand = ends[s.below(len(ends))]
	}
	return api.Step{Hand: hand, Act: s.kind(), At: s.place(size), Had: s.value(), Put: s.value(), OK: s.below(2) == 0}
}

func (s *source) acts(n, size int) []api.Step {
	out := make([]api.Step, n)
	for i := range out {
		out[i] = s.act(size)
	}
	return out
}

func fresh(t *testing.T, words []uint64) *cells.Mem {
	t.Helper()
	m, e := cells.New(words)
	if e != api.OK || m == nil {
		t.Fatalf("New of %d words: %v", len(words), e)
	}
	return m
}

func TestP2_1_New(t *testing.T) {
	from := source(1)
	for _, n := range []int{0, 1, 2, 17, api.MaxWords - 1, api.MaxWords} {
		words := from.words(n)
		m := fresh(t, words)
		if m.Size() != n || !slices.Equal(m.Words(), words) {
			t.Errorf("%d words: size %d, words %v", n, m.Size(), m.Words())
		}
	}
	if m := fresh(t, nil); m.Size() != 0 || len(m.Words()) != 0 {
		t.Error("nil words", m.Words())
	}
	for _, n := range []int{api.MaxWords + 1, 2 * api.MaxWords} {
		if m, e := cells.New(make([]uint64, n)); m != nil || e != api.ErrLong {
			t.Errorf("%d words: %v, %v", n, m, e)
		}
	}
}

// What is handed in is not kept, and what is told shares nothing with what is kept.
func TestP2_1_MemKeepsCopies(t *testing.T) {
	room := []uint64{1, 2, 3, 4}
	m := fresh(t, room[:2])
	room[0] = 9
	told := m.Words()
	told[1] = 9
	m.Store(1, 5)
	if !slices.Equal(m.Words(), []uint64{1, 5}) || !slices.Equal(told, []uint64{1, 9}) {
		t.Error(m.Words(), told)
	}
	_ = append(m.Words(), 8)
	if !slices.Equal(room, []uint64{9, 2, 3, 4}) || m.Size() != 2 {
		t.Error(room, m.Size())
	}
}

func TestP2_1_ActsAsCalls(t *testing.T) {
	m := fresh(t, []uint64{5, 7})
	if m.Load(0) != 5 || m.Load(1) != 7 {
		t.Error("Load", m.Words())
	}
	if m.Store(1, 9); m.Load(1) != 9 || m.Load(0) != 5 {
		t.Error("Store", m.Words())
	}
	if m.Swap(0, 1) != 5 || m.Load(0) != 1 {
		t.Error("Swap tells what stood there", m.Words())
	}
	if m.Add(0, math.MaxUint64) != 0 || m.Load(0) != 0 {
		t.Error("Add is modulo 2^64", m.Words())
	}
	if m.Add(0, math.MaxUint64) != math.MaxUint64 || m.Add(0, math.MaxUint64) != math.MaxUint64-1 {
		t.Error("Add tells what stands there behind it", m.Words())
	}
	if m.CAS(1, 8, 3) || m.Load(1) != 9 || !m.CAS(1, 9, 3) || m.Load(1) != 3 || !m.CAS(1, 3, 3) {
		t.Error("CAS", m.Words())
	}
	if !slices.Equal(m.Words(), []uint64{math.MaxUint64 - 1, 3}) {
		t.Error(m.Words())
	}
}

// Each of the calls against the model, by long lists of calls.
func TestP2_1_ActsAsCallsByModel(t *testing.T) {
	from := source(2)
	for round := range 200 {
		words := from.words(round % 5)
		m := fresh(t, words)
		for range 300 {
			a := from.act(len(words))
			s := act(words, a)
			var got, want uint64
			done := true
			switch a.Act {
			case api.Load:
				got, want = m.Load(a.At), s.Had
			case api.Store:
				m.Store(a.At, a.Put)
			case api.Swap:
				got, want = m.Swap(a.At, a.Put), s.Had
			case api.Add:
				got, want = m.Add(a.At, a.Put), s.Put
			case api.CAS:
				done = m.CAS(a.At, a.Had, a.Put) == s.OK
			}
			if got != want || !done || !slices.Equal(m.Words(), words) || m.Size() != len(words) {
				t.Fatalf("%+v: %d, %v; the model has %+v, %v", a, got, m.Words(), s, words)
			}
		}
	}
}

func TestP2_1_NoWordThere(t *testing.T) {
	words := []uint64{3, 4, 5}
	m := fresh(t, words)
	places := append([]int{3, 4, api.MaxWords, 1 << 32, -1 << 32}, ends[:]...)
	var none *cells.Mem
	for _, mem := range []*cells.Mem{m, none, fresh(t, nil)} {
		for _, at := range append(places, -3, 3) {
			mem.Store(at, 8)
			if mem.Load(at) != 0 || mem.Swap(at, 8) != 0 || mem.Add(at, 8) != 0 || mem.CAS(at, 0, 8) {
				t.Errorf("a word at %d of %d", at, mem.Size())
			}
			for kind := range 8 {
				s := mem.Do(6, kind, at, 0, 8)
				want := api.Step{Hand: 6, Act: kind, At: at, OK: kind != api.CAS}
				if kind < api.Load || kind > api.CAS {
					want.Act = api.Load
				}
				if s != want {
					t.Errorf("%+v; want %+v", s, want)
				}
			}
		}
	}
	if !slices.Equal(m.Words(), words) {
		t.Error("changed", m.Words())
	}
}

func TestP2_1_NilMem(t *testing.T) {
	var none *cells.Mem
	if none.Size() != 0 || len(none.Words()) != 0 {
		t.Error(none.Size(), none.Words())
	}
	none.Store(0, 1)
	if none.Load(0) != 0 || none.Swap(0, 1) != 0 || none.Add(0, 1) != 0 || none.CAS(0, 0, 1) {
		t.Error("a word of nil")
	}
	if s := none.Do(2, api.Add, 0, 0, 1); s != (api.Step{Hand: 2, Act: api.Add, OK: true}) {
		t.Error(s)
	}
	if s := none.Do(2, api.CAS, 0, 0, 1); s != (api.Step{Hand: 2, Act: api.CAS}) {
		t.Error(s)
	}
}

func TestP2_1_NoneOfTheFive(t *testing.T) {
	m := fresh(t, []uint64{5, 7})
	for _, kind := range append([]int{0, 6, 7, 77, 1 << 32, 1<<32 + 2}, ends[:]...) {
		want := api.Step{Hand: -4, Act: api.Load, At: 1, Had: 7, Put: 7, OK: true}
		if s := m.Do(-4, kind, 1, 7, 3); s != want {
			t.Errorf("act %d: %+v", kind, s)
		}
	}
	if !slices.Equal(m.Words(), []uint64{5, 7}) {
		t.Error(m.Words())
	}
}

// The steps of the chapter's table.
func TestP2_1_Examples(t *testing.T) {
	acts := []api.Step{
		{Act: api.Load, At: 0},
		{Act: api.Store, At: 1, Put: 9},
		{Act: api.Swap, At: 0, Put: 1},
		{Act: api.Add, At: 0, Put: 1<<64 - 1},
		{Act: api.CAS, At: 1, Had: 8, Put: 3},
		{Act: api.CAS, At: 1, Had: 9, Put: 3},
		{Act: api.Store, At: 2, Put: 4},
		{Act: api.CAS, At: 2, Had: 0, Put: 4},
		{Act: api.Add, At: -1, Put: 1},
		{Act: 77, At: 0},
	}
	want := []api.Step{
		{Act: api.Load, At: 0, Had: 5, Put: 5, OK: true},
		{Act: api.Store, At: 1, Had: 7, Put: 9, OK: true},
		{Act: api.Swap, At: 0, Had: 5, Put: 1, OK: true},
		{Act: api.Add, At: 0, Had: 1, Put: 0, OK: true},
		{Act: api.CAS, At: 1, Had: 9, Put: 9, OK: false},
		{Act: api.CAS, At: 1, Had: 9, Put: 3, OK: true},
		{Act: api.Store, At: 2, OK: true},
		{Act: api.CAS, At: 2, OK: false},
		{Act: api.Add, At: -1, OK: true},
		{Act: api.Load, At: 0, Had: 0, Put: 0, OK: true},
	}
	steps, words, e := cells.Script([]uint64{5, 7}, acts)
	if e != api.OK || !slices.Equal(steps, want) || !slices.Equal(words, []uint64{0, 3}) {
		t.Errorf("%+v, %v, %v; want %+v", steps, words, e, want)
	}
	m := fresh(t, []uint64{5, 7})
	for i, a := range acts {
		if s := m.Do(a.Hand, a.Act, a.At, a.Had, a.Put); s != want[i] {
			t.Errorf("Do %d: %+v; want %+v", i, s, want[i])
		}
	}
}

func TestP2_1_DoAndScriptByModel(t *testing.T) {
	from := source(3)
	for round := range 300 {
		words := from.words(round % 7)
		acts := from.acts(from.below(200), len(words))
		m := fresh(t, words)
		model := slices.Clone(words)
		var want []api.Step
		for _, a := range acts {
			want = append(want, act(model, a))
			if s := m.Do(a.Hand, a.Act, a.At, a.Had, a.Put); s != want[len(want)-1] {
				t.Fatalf("Do of %+v: %+v; want %+v", a, s, want[len(want)-1])
			}
		}
		steps, behind, e := cells.Script(words, acts)
		if e != api.OK || !slices.Equal(steps, want) || !slices.Equal(behind, model) || !slices.Equal(m.Words(), model) {
			t.Fatalf("Script of %v, %+v: %+v, %v, %v; want %+v, %v", words, acts, steps, behind, e, want, model)
		}
	}
}

func TestP2_1_ScriptLimits(t *testing.T) {
	acts := make([]api.Step, api.MaxSteps+1)
	for i := range acts {
		acts[i] = api.Step{Act: api.Add, At: i % api.MaxWords, Put: 1}
	}
	words := make([]uint64, api.MaxWords+1)
	steps, behind, e := cells.Script(words[:api.MaxWords], acts[:api.MaxSteps])
	if e != api.OK || len(steps) != api.MaxSteps || len(behind) != api.MaxWords {
		t.Fatal(len(steps), len(behind), e)
	}
	for i, w := range behind {
		if w != api.MaxSteps/api.MaxWords {
			t.Fatal(i, w)
		}
	}
	for _, c := range []struct{ words, acts int }{{api.MaxWords + 1, 0}, {0, api.MaxSteps + 1}, {api.MaxWords + 1, api.MaxSteps + 1}} {
		if steps, behind, e := cells.Script(words[:c.words], acts[:c.acts]); len(steps) != 0 || len(behind) != 0 || e != api.ErrLong {
			t.Error(c, len(steps), len(behind), e)
		}
	}
	if steps, behind, e := cells.Script(nil, nil); len(steps) != 0 || len(behind) != 0 || e != api.OK {
		t.Error(steps, behind, e)
	}
}

// A script leaves what it is given as it was, spare room too, and its answers share nothing.
func TestP2_1_ScriptLeavesItsArguments(t *testing.T) {
	words := []uint64{1, 2, 3}
	acts := []api.Step{{Act: api.Add, At: 0, Had: 4, Put: 5}, {Act: 9, At: 1, OK: true}, {Act: api.Swap, At: 2, Put: 8}}
	heldWords, heldActs := slices.Clone(words), slices.Clone(acts)
	steps, behind, e := cells.Script(words[:2], acts[:2])
	if e != api.OK || !slices.Equal(words, heldWords) || !slices.Equal(acts, heldActs) {
		t.Error(words, acts, e)
	}
	behind[0], steps[0].Put = 77, 77
	_ = append(behind, 78)
	_ = append(steps, api.Step{Put: 78})
	again, words2, _ := cells.Script(words[:2], acts[:2])
	if !slices.Equal(words, heldWords) || !slices.Equal(acts, heldActs) || again[0].Put != 6 || words2[0] != 6 {
		t.Error(words, acts, again, words2)
	}
}

// The law of P2.2 itself, without the model.
func TestP2_2_ToldAsItWas(t *testing.T) {
	from := source(4)
	for round := range 300 {
		words := from.words(1 + round%6)
		acts := from.acts(400, len(words))
		steps, behind, e := cells.Script(words, acts)
		if e != api.OK || len(steps) != len(acts) {
			t.Fatal(len(steps), e)
		}
		left := slices.Clone(words)
		for i, s := range steps {
			there := s.At >= 0 && s.At < len(left)
			switch {
			case !there && (s.Had != 0 || s.Put != 0):
				t.Fatalf("step %d %+v: no word is there", i, s)
			case there && s.Had != left[s.At]:
				t.Fatalf("step %d %+v: %d was left there", i, s, left[s.At])
			case (!s.OK || s.Act == api.Load) && s.Put != s.Had:
				t.Fatalf("step %d %+v changes the word", i, s)
			case !s.OK && s.Act != api.CAS:
				t.Fatalf("step %d %+v is not OK", i, s)
			case there && s.Act == api.CAS && s.OK != (s.Had == acts[i].Had):
				t.Fatalf("step %d %+v of %+v", i, s, acts[i])
			}
			if there {
				left[s.At] = s.Put
			}
		}
		if !slices.Equal(left, behind) {
			t.Fatal(left, behind)
		}
	}
}
