package trial_test

import (
	"fmt"
	"slices"
	"strconv"
	"testing"

	"midden/api"
	"midden/cells"
	"midden/layer"
	"midden/trial"
	"midden/turn"
)

// An ear is a test that only hears what doesn't hold.
type ear struct{ heard int }

type left struct{}

func (e *ear) Helper()               {}
func (e *ear) Errorf(string, ...any) { e.heard++ }
func (e *ear) Fatalf(string, ...any) { e.heard++; panic(left{}) }

func hears(try func(t trial.T)) bool {
	e := &ear{}
	func() {
		defer func() {
			if x := recover(); x != nil && x != (left{}) {
				panic(x)
			}
		}()
		try(e)
	}()
	return e.heard > 0
}

// The layer on trial has one kind of jobs, 1: by a load and a CAS H is added to word A.
func size(sh api.Shape) (int, api.Errno) {
	if e := layer.CheckRoom(sh, 4); e != api.OK {
		return 0, e
	}
	return sh.Room, api.OK
}

func fresh(sh api.Shape) ([]uint64, api.Errno) {
	n, e := size(sh)
	if e != api.OK {
		return nil, e
	}
	return make([]uint64, n), api.OK
}

func table(_ api.Shape, _ int, j api.Job, act trial.Act) api.Answer {
	for {
		w := act.Load(j.A)
		if act.CAS(j.A, w, w+j.H) {
			return trial.Told(w)
		}
	}
}

type adding struct {
	hand   int
	job    api.Job
	w      uint64
	loaded bool
}

func (a *adding) Answer() api.Answer { return trial.Told(a.w) }

func (a *adding) Step(m *cells.Mem) (api.Step, int) {
	if !a.loaded {
		s := m.Do(a.hand, api.Load, a.job.A, 0, 0)
		a.w, a.loaded = s.Had, true
		return s, turn.Going
	}
	s := m.Do(a.hand, api.CAS, a.job.A, a.w, a.w+a.job.H)
	if s.OK {
		return s, turn.Ended
	}
	a.loaded = false
	return s, turn.Going
}

func task(sh api.Shape, hand int, j api.Job) (turn.Task, api.Errno) {
	switch _, e := size(sh); {
	case e != api.OK:
		return nil, e
	case j.Kind != 1:
		return nil, api.ErrKind
	case j.A < 0 || j.A >= sh.Room:
		return nil, api.ErrArg
	}
	return &adding{hand: hand, job: j}, api.OK
}

func play(sh api.Shape, words []uint64, hands [][]api.Job, schedule []int, most int) (api.Trace, [][]api.Answer, api.Errno) {
	return layer.Play(size, task, sh, words, hands, schedule, most)
}

func free(sh api.Shape, hands [][]api.Job) ([]uint64, [][]api.Answer, api.Errno) {
	return layer.Free(fresh, task, sh, hands)
}

func sound() trial.Layer {
	return trial.Layer{Size: size, Fresh: fresh, Task: task, Play: play, Free: free, Table: table}
}

func add(h uint64) api.Job { return api.Job{Kind: 1, H: h} }

// all holds a layer to all that trial has.
func all(l trial.Layer) bool {
	sh := api.Shape{Room: 3}
	words := []uint64{4, 5, 6}
	hands := [][]api.Job{{add(1), add(2)}, {add(3)}, {{Kind: 1, A: 1, H: 4}}}
	return hears(func(t trial.T) {
		for schedule := range trial.Lists(3, 5) {
			l.HoldRun(t, sh, words, hands, schedule, 30)
		}
		l.HoldTask(t, sh, 5, add(7), words, 9)
		l.HoldTask(t, sh, -5, add(7), nil, 9)
		l.HoldSteps(t, sh, words, hands[:2], []int{0, 1, 0, 1, 1, 0, 1},
			[]api.Step{
				trial.Load(0, 0, 4), trial.Load(1, 0, 4), trial.CAS(0, 0, 4, 5), trial.Lost(1, 0, 5),
				trial.Load(1, 0, 5), trial.Load(0, 0, 5), trial.CAS(1, 0, 5, 8), trial.Lost(0, 0, 8),
				trial.Load(0, 0, 8), trial.CAS(0, 0, 8, 10),
			},
			[][]api.Answer{{trial.Told(4), trial.Told(8)}, {trial.Told(5)}}, []uint64{10, 5, 6})
		faults := trial.RoomFaults(sh, 4, add(1), 1)
		faults.Wrong = append(faults.Wrong,
			trial.Wrong{Job: api.Job{Kind: 2, A: -1}, Errno: api.ErrKind}, trial.Wrong{Job: api.Job{Kind: 1, A: 3}, Errno: api.ErrArg})
		l.HoldRefusals(t, faults)
		l.HoldNothingToDo(t, sh, words, add(1))
		l.HoldMemory(t, sh, words, hands, []int{0, 1, 2}, 30)
		l.HoldOneHand(t, sh, hands[0])
		l.HoldFresh(t, 4, func(n int) []uint64 { return make([]uint64, n) })
		l.HoldTaskErrors(t, 4, 1, func(_, kind int) api.Errno { // of a job with A below 0
			if kind != 1 {
				return api.ErrKind
			}
			return api.ErrArg
		})
	})
}

func TestSoundLayer(t *testing.T) {
	if all(sound()) {
		t.Error("something was heard")
	}
}

// Each layer has one fault; among them are such as only one of trial's calls can find.
func TestFaultyLayers(t *testing.T) {
	for name, spoil := range map[string]func(l *trial.Layer){
		"a step more": func(l *trial.Layer) {
			l.Table = func(sh api.Shape, hand int, j api.Job, act trial.Act) api.Answer {
				act.Load(0)
				return table(sh, hand, j, act)
			}
		},
		"another answer": func(l *trial.Layer) {
			l.Table = func(sh api.Shape, hand int, j api.Job, act trial.Act) api.Answer {
				a := table(sh, hand, j, act)
				a.Val++
				return a
			}
		},
		"a task of another hand": func(l *trial.Layer) {
			l.Task = func(sh api.Shape, hand int, j api.Job) (turn.Task, api.Errno) { return task(sh, 0, j) }
		},
		"a task of no room": func(l *trial.Layer) {
			l.Task = func(sh api.Shape, hand int, j api.Job) (turn.Task, api.Errno) {
				return task(api.Shape{Room: 3}, hand, j)
			}
		},
		"hands of some numbers alone": func(l *trial.Layer) {
			l.Task = func(sh api.Shape, hand int, j api.Job) (turn.Task, api.Errno) {
				if hand == api.MaxHands {
					return nil, api.ErrKind
				}
				return task(sh, hand, j)
			}
		},
		"a task beside an error": func(l *trial.Layer) {
			l.Task = func(sh api.Shape, hand int, j api.Job) (turn.Task, api.Errno) {
				k, e := task(sh, hand, j)
				if k == nil {
					k = &adding{}
				}
				return k, e
			}
		},
		"a room that begins otherwise": func(l *trial.Layer) {
			l.Fresh = func(sh api.Shape) ([]uint64, api.Errno) {
				words, e := fresh(sh)
				if sh.Room == 4 {
					words[3] = 1
				}
				return words, e
			}
		},
		"a shape that is looked at": func(l *trial.Layer) {
			l.Size = func(sh api.Shape) (int, api.Errno) {
				if sh.Objects < 0 {
					return 0, api.ErrShape
				}
				return size(sh)
			}
		},
		"a size beside an error": func(l *trial.Layer) {
			l.Size = func(sh api.Shape) (int, api.Errno) { return sh.Room, layer.CheckRoom(sh, 4) }
		},
		"words beside an error": func(l *trial.Layer) {
			l.Fresh = func(api.Shape) ([]uint64, api.Errno) { return []uint64{0}, api.ErrShape }
		},
		"words that are kept": func(l *trial.Layer) {
			kept := make([]uint64, 3)
			l.Fresh = func(sh api.Shape) ([]uint64, api.Errno) { return keep(kept, sh) }
		},
		"no run": func(l *trial.Layer) {
			l.Free = func(api.Shape, [][]api.Job) ([]uint64, [][]api.Answer, api.Errno) { return nil, nil, api.OK }
		},
		"answers of another run": func(l *trial.Layer) {
			l.Free = func(sh api.Shape, hands [][]api.Job) ([]uint64, [][]api.Answer, api.Errno) {
				w, a, e := free(sh, hands)
				for h := range a {
					for i := range a[h] {
						a[h][i].Val++
					}
				}
				return w, a, e
			}
		},
		"any number of words":     func(l *trial.Layer) { l.Play = unsized },
		"spare room that changes": func(l *trial.Layer) { l.Play = changing },
		"words that are shared":   func(l *trial.Layer) { l.Play = sharing },
		"answers that are shared": func(l *trial.Layer) { l.Play = crowding },
	} {
		l := sound()
		spoil(&l)
		if !all(l) {
			t.Error("nothing was heard of", name)
		}
	}
}

// A follower of the layer on trial; with one fault each, it is heard of.
func TestFollowed(t *testing.T) {
	hands := [][]api.Job{{add(1), add(2)}, {add(3)}, nil}
	x, a, _ := play(api.Shape{Room: 3}, []uint64{4, 5, 6}, hands, []int{0, 1, 0}, 7)
	if trial.CountLost(x, 0, 0) != 0 || trial.CountLost(x, 1, 0) != 1 || trial.CountLost(x, 1, 1) != 0 {
		t.Fatal("the CAS that were not done", x)
	}
	follow := func(j *trial.Job, s api.Step) string {
		switch {
		case s.Act == api.Load:
			if j.Steps == 1 && (j.Note != 0 || j.Ended || j.Want != api.Answer{}) {
				return "a job that isn't new"
			}
			j.Note = s.Had
		case s.OK && (s.Hand != j.Hand || s.Put-s.Had != j.H):
			return "another job's step"
		case s.OK:
			j.End(trial.Told(j.Note))
		case j.Steps%2 != 0:
			return "an odd step"
		}
		return ""
	}
	more := append(slices.Clone(a[:2]), []api.Answer{{}})
	for _, c := range []struct {
		name   string
		told   [][]api.Answer
		follow func(j *trial.Job, s api.Step) string
		heard  bool
	}{
		{"nothing", a, follow, false},
		{"an answer too many", more, follow, true},
		{"an answer too few", [][]api.Answer{a[0][:1], a[1], nil}, follow, true},
		{"no end", a, func(*trial.Job, api.Step) string { return "" }, true},
		{"a fault", a, func(j *trial.Job, s api.Step) string { follow(j, s); return "a fault" }, true},
		{"another answer", a, func(j *trial.Job, s api.Step) string { follow(j, s); j.Want.Val++; return "" }, true},
	} {
		if hears(func(t trial.T) { trial.HoldFollowed(t, x, hands, c.told, c.follow) }) != c.heard {
			t.Error(c.name)
		}
	}
}

func TestSettles(t *testing.T) {
	left := 9
	one := func() { left-- }
	count := func() int { return left }
	if !trial.Settles(9, count, one) || left != 9 || !trial.Settles(3, count, one) || left != 3 {
		t.Error("it hasn't waited as long as it must:", left)
	}
	if trial.Settles(2, count, func() {}) {
		t.Error("three are left")
	}
}

func keep(kept []uint64, sh api.Shape) ([]uint64, api.Errno) {
	if _, e := size(sh); e != api.OK {
		return nil, e
	}
	return kept[:sh.Room], api.OK
}

// unsized doesn't look at how many words there are.
func unsized(sh api.Shape, words []uint64, hands [][]api.Job, schedule []int, most int) (api.Trace, [][]api.Answer, api.Errno) {
	if _, e := size(sh); e != api.OK {
		return api.Trace{}, nil, e
	}
	return turn.Play(words, hands, schedule, most, func(hand int, j api.Job) (turn.Task, api.Errno) { return task(sh, hand, j) })
}

// changing writes into the spare room of what it is given.
func changing(sh api.Shape, words []uint64, hands [][]api.Job, schedule []int, most int) (api.Trace, [][]api.Answer, api.Errno) {
	_ = append(schedule, 1)
	return play(sh, words, hands, schedule, most)
}

// sharing answers the words that it was given.
func sharing(sh api.Shape, words []uint64, hands [][]api.Job, schedule []int, most int) (api.Trace, [][]api.Answer, api.Errno) {
	x, a, e := play(sh, words, hands, schedule, most)
	if e == api.OK {
		copy(words, x.Words)
		x.Words = words
	}
	return x, a, e
}

// crowding lays all hands' answers into one list.
func crowding(sh api.Shape, words []uint64, hands [][]api.Job, schedule []int, most int) (api.Trace, [][]api.Answer, api.Errno) {
	x, a, e := play(sh, words, hands, schedule, most)
	list := slices.Concat(a...)
	for h := range a {
		n := len(a[h])
		a[h], list = list[:n], list[n:]
	}
	return x, a, e
}

// stateOf: all that the going on of an adding hangs on.
func stateOf(k turn.Task) string {
	a := k.(*adding)
	return strconv.FormatUint(a.w, 10) + strconv.FormatBool(a.loaded)
}

// Each run by each schedule comes by spots that were told of, and by no others.
func TestEveryOrder(t *testing.T) {
	sh, words := api.Shape{Room: 1}, []uint64{0}
	hands := [][]api.Job{{add(1), add(2)}, nil, {add(4)}}
	spotOf := func(schedule []int) string {
		x, a, _ := play(sh, words, hands, schedule, len(schedule))
		loaded := make([]string, len(hands))
		for _, s := range x.Steps {
			loaded[s.Hand] = ""
			if s.Act == api.Load {
				loaded[s.Hand] = fmt.Sprint(s.Had)
			}
		}
		return fmt.Sprint(x.Words, a, loaded)
	}
	var counts []int
	for _, state := range []func(turn.Task) string{stateOf, nil} {
		told := map[string]int{}
		ended := 0
		spots := sound().EveryOrder(t, sh, words, hands, state, func(schedule []int) {
			told[spotOf(schedule)]++
			if x, _, _ := play(sh, words, hands, schedule, len(schedule)); x.Ended {
				ended++
			}
		})
		if ended < 3 || spots < len(told) {
			t.Error(ended, spots, len(told))
		}
		for schedule := range trial.Lists(2, 10) {
			for n := range len(schedule) + 1 {
				if told[spotOf(schedule[:n])] == 0 {
					t.Fatal("not told of:", schedule[:n])
				}
			}
		}
		if n := sound().EveryOrder(t, sh, words, nil, state, func([]int) {}); n != 1 {
			t.Error("no hands:", n)
		}
		counts = append(counts, spots)
	}
	if counts[1] < counts[0] {
		t.Error("by its steps a task is told apart at least as well:", counts)
	}
}

// Who was first stands in no word, when both have ended: it is told of by the past alone.
func TestEveryPast(t *testing.T) {
	sh, words, hands := api.Shape{Room: 2}, []uint64{0, 0}, [][]api.Job{{add(1)}, {{Kind: 1, A: 1, H: 1}}}
	firsts := map[int]int{}
	pasts := sound().EveryPast(t, sh, words, hands, stateOf, func(schedule []int) string {
		x, _, _ := play(sh, words, hands, schedule, len(schedule))
		if len(x.Steps) == 0 {
			return ""
		}
		if x.Ended {
			firsts[x.Steps[0].Hand]++
		}
		return strconv.Itoa(x.Steps[0].Hand)
	})
	spots := sound().EveryOrder(t, sh, words, hands, stateOf, func([]int) {})
	if spots != 9 || pasts != 1+2+2+4*2 || firsts[0] == 0 || firsts[1] == 0 {
		t.Error(spots, pasts, firsts)
	}
}

func TestEveryOrderWithoutEnd(t *testing.T) {
	sh, words, hands := api.Shape{Room: 1}, []uint64{0}, slices.Repeat([][]api.Job{{add(1), add(1), add(1), add(1)}}, 4)
	n := 0
	other := func(turn.Task) string { n++; return strconv.Itoa(n) }
	if !hears(func(t trial.T) { sound().EveryOrder(t, sh, words, hands, other, func([]int) {}) }) {
		t.Error("it has come to an end")
	}
	if !hears(func(t trial.T) { sound().EveryOrder(t, sh, words, [][]api.Job{{{}}}, stateOf, func([]int) {}) }) {
		t.Error("a job that is none")
	}
	none := sound()
	none.Task = func(api.Shape, int, api.Job) (turn.Task, api.Errno) { return nil, api.OK }
	if !hears(func(t trial.T) { none.EveryOrder(t, sh, words, hands, nil, func([]int) {}) }) {
		t.Error("a task that is none")
	}
}
