package cells_test

import (
	"runtime"
	"slices"
	"sync"
	"sync/atomic"
	"testing"

	"midden/api"
	"midden/cells"
)

// atOnce lets each hand make its acts by Do in a goroutine of its own, all on one memory: the steps that were told.
func atOnce(m *cells.Mem, hands [][]api.Step) [][]api.Step {
	told := make([][]api.Step, len(hands))
	var all sync.WaitGroup
	var here atomic.Int64
	for h, acts := range hands {
		all.Add(1)
		go func() {
			defer all.Done()
			steps := make([]api.Step, 0, len(acts))
			for here.Add(1); here.Load() < int64(len(hands)); { // so that they begin together
				runtime.Gosched()
			}
			for _, a := range acts {
				steps = append(steps, m.Do(a.Hand, a.Act, a.At, a.Had, a.Put))
			}
			told[h] = steps
		}()
	}
	all.Wait()
	return told
}

// A search looks for an order of all hands' acts by which the words go as the steps tell.
type search struct {
	acts, steps [][]api.Step
	next        []int
	words       []uint64
	order       []int
	failed      map[string]struct{} // where the search has been in vain: how far each hand is, and the words
}

func (s *search) key() string {
	var b []byte
	for _, n := range s.next {
		b = append(b, byte(n), byte(n>>8))
	}
	for _, w := range s.words {
		for range 8 {
			b = append(b, byte(w))
			w >>= 8
		}
	}
	return string(b)
}

// try makes a hand's next act on the words, if its step is the one that was told.
func (s *search) try(h int) (had uint64, fits, changes bool) {
	a, want := s.acts[h][s.next[h]], s.steps[h][s.next[h]]
	there := a.At >= 0 && a.At < len(s.words)
	if there {
		had = s.words[a.At]
	}
	if act(s.words, a) != want {
		if there {
			s.words[a.At] = had
		}
		return had, false, false
	}
	s.next[h]++
	s.order = append(s.order, h)
	return had, true, there && s.words[a.At] != had
}

func (s *search) back(h int, had uint64) {
	s.next[h]--
	s.order = s.order[:len(s.order)-1]
	if at := s.acts[h][s.next[h]].At; at >= 0 && at < len(s.words) {
		s.words[at] = had
	}
}

func (s *search) find() bool {
	ended := true
	for h := range s.acts {
		ended = ended && s.next[h] == len(s.acts[h])
	}
	if ended {
		return true
	}
	key := s.key()
	if _, seen := s.failed[key]; seen {
		return false
	}
	for h := range s.acts {
		if s.next[h] == len(s.acts[h]) {
			continue
		}
		had, fits, changes := s.try(h)
		if !fits {
			continue
		}
		if s.find() {
			return true
		}
		s.back(h, had)
		if !changes { // a step that changes nothing may as well be made at once: there is no other way then either
			break
		}
	}
	s.failed[key] = struct{}{}
	return false
}

// holdOrder fails, if no order of the acts gives these steps, or Script does not tell them in the order that was found.
func holdOrder(t *testing.T, words []uint64, hands, told [][]api.Step, behind []uint64) {
	t.Helper()
	s := &search{acts: hands, steps: told, next: make([]int, len(hands)), words: slices.Clone(words), failed: map[string]struct{}{}}
	if !s.find() {
		t.Fatalf("no order of these steps: %+v", told)
	}
	var acts, want []api.Step
	at := make([]int, len(hands))
	for _, h := range s.order {
		acts, want = append(acts, hands[h][at[h]]), append(want, told[h][at[h]])
		at[h]++
	}
	steps, left, e := cells.Script(words, acts)
	if e != api.OK || !slices.Equal(steps, want) || !slices.Equal(left, behind) {
		t.Fatalf("Script tells other steps: %v, %v; want %v", left, e, behind)
	}
}

// Few values on few words: a word often becomes again what a CAS expects, at the moment when that CAS has failed.
func TestP2_4_FewValues(t *testing.T) {
	from := source(7)
	for round := range 300 {
		words := make([]uint64, 1+round%2)
		hands := make([][]api.Step, 3)
		for h := range hands {
			for range 60 {
				a := api.Step{Hand: h, Act: from.kind(), At: from.below(len(words)), Had: uint64(from.below(2)), Put: uint64(from.below(2))}
				if from.below(20) == 0 {
					a.At = -1
				}
				if a.Act == api.Add { // a sum would leave the few values
					a.Put = 0
				}
				hands[h] = append(hands[h], a)
			}
		}
		m := fresh(t, words)
		holdOrder(t, words, hands, atOnce(m, hands), m.Words())
	}
}

// Each value is put once, so that a step that tells an old word has no place in any order.
func TestP2_4_EachValueOnce(t *testing.T) {
	from := source(8)
	for round := range 60 {
		words := make([]uint64, 1+round%2)
		hands := make([][]api.Step, 4)
		value := uint64(1)
		for h := range hands {
			for range 300 {
				a := api.Step{Hand: h, Act: api.Load + from.below(5), At: from.below(len(words)), Had: value - uint64(from.below(3)), Put: value}
				if a.Act == api.Add {
					a.Put <<= 20
				}
				value++
				hands[h] = append(hands[h], a)
			}
		}
		m := fresh(t, words)
		holdOrder(t, words, hands, atOnce(m, hands), m.Words())
	}
}

// By one word that goes to and fro: a CAS that isn't done never tells the very word that it expects.
func TestP2_4_NotDoneTellsAnother(t *testing.T) {
	hands := make([][]api.Step, 4)
	for h := range hands {
		for i := range 50000 {
			a := api.Step{Hand: h, Act: api.CAS, Had: uint64(i % 2), Put: uint64(1 - i%2)}
			if h < 2 {
				a = api.Step{Hand: h, Act: api.Swap, Put: uint64((i + h) % 2)}
			}
			hands[h] = append(hands[h], a)
		}
	}
	m := fresh(t, []uint64{0})
	turns := 0
	for h, steps := range atOnce(m, hands) {
		for i, s := range steps {
			if s.Act == api.CAS && s.OK != (s.Had == hands[h][i].Had) || !s.OK && s.Put != s.Had {
				t.Fatalf("hand %d, act %d: %+v", h, i, s)
			}
			turns += int(s.Put) - int(s.Had)
		}
	}
	if m.Load(0) != uint64(turns) {
		t.Error("turns that nobody told", turns, m.Load(0))
	}
}

// By a chain: each store's and each swap's Had is another one's Put, none is told twice, and the last one stands there.
func TestP2_4_StoresInAChain(t *testing.T) {
	const hands, each = 4, 20000
	lists := make([][]api.Step, hands)
	for h := range lists {
		for i := range each {
			lists[h] = append(lists[h], api.Step{Hand: h, Act: api.Store + i%2, Put: uint64(1 + h*each + i)})
		}
	}
	m := fresh(t, []uint64{0})
	behind := make([]int, hands*each+1) // how often each value was found
	for _, steps := range atOnce(m, lists) {
		for _, s := range steps {
			behind[s.Had]++
		}
	}
	for v, n := range behind {
		if last := m.Load(0) == uint64(v); last && n != 0 || !last && n != 1 {
			t.Fatalf("%d was found %d times; %d stands there", v, n, m.Load(0))
		}
	}
}
