package once_test

import (
	"errors"
	"math"
	"runtime"
	"sync"
	"sync/atomic"
	"testing"

	"midden/api"
	"midden/once"
)

func newGroup(t *testing.T, keys int) *once.Group {
	t.Helper()
	g, e := once.NewGroup(keys)
	if g == nil || e != api.OK {
		t.Fatal(keys, g, e)
	}
	return g
}

// expect fails, if the call doesn't answer so.
func expect(t *testing.T, g *once.Group, key int, f func(), want bool, errno api.Errno) {
	t.Helper()
	if first, e := g.Do(key, f); first != want || e != errno {
		t.Errorf("key %d: %v, %v; want %v, %v", key, first, e, want, errno)
	}
}

// together starts n goroutines at one moment, and comes back when all have ended.
func together(n int, each func(i int)) {
	var all sync.WaitGroup
	var here atomic.Int64
	for i := range n {
		all.Go(func() {
			for here.Add(1); here.Load() < int64(n); {
				runtime.Gosched()
			}
			each(i)
		})
	}
	all.Wait()
}

func TestP4_1_NewGroup(t *testing.T) {
	for _, keys := range append([]int{0, api.MaxRoom + 1, 1 << 32, 1<<32 + 1}, ends[:]...) {
		if g, e := once.NewGroup(keys); g != nil || e != api.ErrArg {
			t.Error(keys, g, e)
		}
	}
	for keys := 1; keys <= api.MaxRoom; keys++ {
		g, calls := newGroup(t, keys), 0
		for key := range keys {
			expect(t, g, key, func() { calls++ }, true, api.OK)
			expect(t, g, key, func() { t.Error("called again") }, false, api.OK)
		}
		if calls != keys {
			t.Error(keys, calls)
		}
		for _, key := range []int{keys, keys + 1, api.MaxRoom, -1} {
			if key >= keys || key < 0 {
				expect(t, g, key, func() { t.Error("called for no key") }, false, api.ErrArg)
			}
		}
	}
}

// What is refused calls nothing, and leaves the key as it was.
func TestP4_1_GroupRefuses(t *testing.T) {
	never := func() { t.Error("called beside an error") }
	var none *once.Group
	for _, key := range append([]int{0, 1, api.MaxRoom}, ends[:]...) {
		expect(t, none, key, never, false, api.ErrArg)
		expect(t, none, key, nil, false, api.ErrArg)
	}
	g := newGroup(t, 3)
	for _, key := range append([]int{3, 4, api.MaxRoom, 1 << 32, 1<<32 + 1, math.MaxInt32}, ends[:]...) {
		expect(t, g, key, never, false, api.ErrArg)
		expect(t, g, key, nil, false, api.ErrArg)
	}
	for key := range 3 {
		expect(t, g, key, nil, false, api.ErrArg)
		called := false
		expect(t, g, key, func() { called = true }, true, api.OK)
		if !called {
			t.Error("the refused call counted as the first one", key)
		}
		expect(t, g, key, nil, false, api.ErrArg)
		expect(t, g, key, never, false, api.OK)
	}
}

// Each key and each group stands for itself: also inside of an action of another one.
func TestP4_1_KeysAndGroupsApart(t *testing.T) {
	g, other := newGroup(t, 3), newGroup(t, 3)
	var order []string
	note := func(s string) func() { return func() { order = append(order, s) } }
	expect(t, g, 1, func() {
		expect(t, g, 0, note("0"), true, api.OK)
		expect(t, other, 1, note("other"), true, api.OK)
		order = append(order, "1")
	}, true, api.OK)
	expect(t, g, 0, note("again"), false, api.OK)
	expect(t, other, 1, note("again"), false, api.OK)
	expect(t, g, 1, note("again"), false, api.OK)
	expect(t, g, 2, note("2"), true, api.OK)
	expect(t, other, 2, note("other 2"), true, api.OK)
	want := [...]string{"0", "other", "1", "2", "other 2"}
	if len(order) != len(want) || [5]string(order) != want {
		t.Error(order)
	}
}

// panicOf calls Do with an f that panics with v, and tells what came through.
func panicOf(t *testing.T, g *once.Group, key int, v any) (through any) {
	t.Helper()
	defer func() { through = recover() }()
	first, e := g.Do(key, func() { panic(v) })
	t.Error("the panic is lost", first, e)
	return nil
}

func TestP4_1_GroupPanics(t *testing.T) {
	g := newGroup(t, 2)
	fault := errors.New("a fault")
	if got := panicOf(t, g, 1, fault); got != fault {
		t.Error("another panic", got)
	}
	for range 3 {
		expect(t, g, 1, func() { t.Error("done again") }, false, api.OK)
	}
	expect(t, g, 0, func() {}, true, api.OK)
	expect(t, g, 0, func() { panic("not called") }, false, api.OK)
}

// Those that wait for an action that panics are let go, and call nothing.
func TestP4_3_PanicLetsTheOthersGo(t *testing.T) {
	for range 200 {
		g := newGroup(t, 1)
		var panics, calls, untrue atomic.Int64
		ended := false
		together(8, func(int) {
			defer func() {
				if recover() != nil {
					panics.Add(1)
				}
				if !ended {
					t.Error("ahead of the action's end")
				}
			}()
			first, e := g.Do(0, func() {
				calls.Add(1)
				runtime.Gosched()
				ended = true
				panic("x")
			})
			if !first && e == api.OK {
				untrue.Add(1)
			}
		})
		if panics.Load() != 1 || calls.Load() != 1 || untrue.Load() != 7 {
			t.Fatal(panics.Load(), calls.Load(), untrue.Load())
		}
	}
}

// An action that a test holds: the others have not returned as long as it is under way.
func TestP4_3_OthersWait(t *testing.T) {
	g := newGroup(t, 2)
	begun, release := make(chan struct{}), make(chan struct{})
	var all sync.WaitGroup
	var back, calls atomic.Int64
	ended := false
	all.Go(func() {
		expect(t, g, 1, func() {
			close(begun)
			<-release
			ended = true
		}, true, api.OK)
	})
	<-begun
	for range 20 {
		all.Go(func() {
			first, e := g.Do(1, func() { calls.Add(1) })
			back.Add(1)
			if first || e != api.OK || !ended {
				t.Error(first, e, ended)
			}
		})
	}
	for range 10000 {
		runtime.Gosched()
	}
	if n := back.Load(); n != 0 {
		t.Error("did not wait:", n)
	}
	expect(t, g, 0, func() {}, true, api.OK) // another key doesn't wait
	close(release)
	all.Wait()
	if back.Load() != 20 || calls.Load() != 0 {
		t.Error(back.Load(), calls.Load())
	}
}

// Actions of two keys under way at one time: each ends only when the other one has begun.
func TestP4_3_TwoKeysAtOneTime(t *testing.T) {
	for range 50 {
		g := newGroup(t, api.MaxRoom)
		keys := [2]int{0, api.MaxRoom - 1}
		begun := [2]chan struct{}{make(chan struct{}), make(chan struct{})}
		together(2, func(i int) {
			expect(t, g, keys[i], func() {
				close(begun[i])
				<-begun[1-i]
			}, true, api.OK)
		})
	}
}

// Many goroutines at one key: one is first, its f alone is called, and each comes back behind that f's end.
func TestP4_3_ManyAtOneKey(t *testing.T) {
	for round := range 300 {
		g := newGroup(t, 1+round%3)
		key := round % (1 + round%3)
		who, done := -1, 0
		var firsts [16]bool
		together(len(firsts), func(i int) {
			first, e := g.Do(key, func() {
				who = i
				for range round % 7 {
					runtime.Gosched()
				}
				done++
			})
			firsts[i] = first
			if e != api.OK || done != 1 || first != (who == i) {
				t.Errorf("%d: goroutine %d: %v, %v; %d done, by %d", round, i, first, e, done, who)
			}
		})
		n := 0
		for _, first := range firsts {
			if first {
				n++
			}
		}
		if n != 1 || done != 1 {
			t.Fatal(round, firsts, done)
		}
	}
}

// All keys by many goroutines, each in an order of its own.
func TestP4_3_ManyAtManyKeys(t *testing.T) {
	g := newGroup(t, api.MaxRoom)
	var done [api.MaxRoom]int
	var firsts [api.MaxRoom]atomic.Int64
	together(8, func(i int) {
		for n := range api.MaxRoom {
			key := (n*(2*i+1) + i) % api.MaxRoom
			first, e := g.Do(key, func() { done[key]++ })
			if first {
				firsts[key].Add(1)
			}
			if e != api.OK || done[key] != 1 {
				t.Error(i, key, first, e, done[key])
			}
		}
	})
	for key := range done {
		if done[key] != 1 || firsts[key].Load() != 1 {
			t.Error(key, done[key], firsts[key].Load())
		}
	}
}
