package mutator_test

import (
	"fmt"
	"math"
	"slices"
	"testing"

	"midden/api"
	"midden/mutator"
	"midden/trial"
	"midden/turn"
)

// full is a shape with all that jobs can be at.
var full = api.Shape{Objects: 4, Slots: 2, Hands: 3, Roots: 3, Weaks: 2, Room: math.MinInt}

// fields: of each kind what is the first number that is out of a field's range, at its upper end; 0 for a field that isn't used. least
// is its lower end.
type fields struct {
	kind    int
	a, b, c int
	leastC  int
}

func eachField(sh api.Shape) []fields {
	return []fields{
		{kind: api.New, a: sh.Roots, b: 2}, {kind: api.Get, a: sh.Roots, b: sh.Slots, c: sh.Roots},
		{kind: api.Put, a: sh.Roots, b: sh.Slots, c: sh.Roots, leastC: -1}, {kind: api.Copy, a: sh.Roots, c: sh.Roots},
		{kind: api.Drop, a: sh.Roots}, {kind: api.MakeWeak, a: sh.Roots, b: sh.Weaks}, {kind: api.GetWeak, b: sh.Weaks, c: sh.Roots},
		{kind: api.Take, c: sh.Roots}, {kind: api.Poll},
	}
}

// beyond: numbers that are out of a range from least on to the one ahead of end; some of them are in it in their lower half alone.
func beyond(least, end int) []int {
	return append([]int{least - 1, least - 2, end, end + 1, 1 << 32, 1<<32 + least, -1 << 32, 1 << 62, -1 << 62}, slices.DeleteFunc(trial.Ends(), func(n int) bool { return n >= least && n < end })...)
}

// wrongs: of each kind each field that it uses, out of its range in a job that is right else; and jobs of no kind.
func wrongs(sh api.Shape) []trial.Wrong {
	var out []trial.Wrong
	for _, f := range eachField(sh) {
		right := api.Job{Kind: f.kind, A: max(f.a-1, 0), B: max(f.b-1, 0), C: max(f.c-1, 0), H: never}
		add := func(end, least int, set func(j *api.Job, n int)) {
			for _, n := range beyond(least, end) {
				j := right
				if set(&j, n); end > 0 {
					out = append(out, trial.Wrong{Job: j, Errno: api.ErrArg})
				}
			}
		}
		add(f.a, 0, func(j *api.Job, n int) { j.A = n })
		add(f.b, 0, func(j *api.Job, n int) { j.B = n })
		add(f.c, f.leastC, func(j *api.Job, n int) { j.C = n })
	}
	for _, kind := range trial.NoKinds(api.Poll) {
		out = append(out, trial.Wrong{Job: api.Job{Kind: kind}, Errno: api.ErrKind}, trial.Wrong{Job: api.Job{Kind: kind, A: -9, B: -9, C: -9}, Errno: api.ErrKind})
	}
	return out
}

func TestP23_1_ErrorsInOrder(t *testing.T) {
	all := wrongs(full)
	for i, fine := range []api.Job{newOf(0), finalOf(2), getOf(0, 1, 2), putOf(2, 0, -1), copyOf(0, 2), dropOf(1), showOf(2, 1), seeOf(0, 2), takeOf(2), poll} {
		f := trial.HeapFaults(full, fine, api.Poll)
		for k := i; k < len(all); k += 23 { // each pair of all of them would take too long
			f.Wrong = append(f.Wrong, all[k])
		}
		mutators.HoldRefusals(t, f)
	}
	least := api.Shape{Objects: 1, Hands: 2, Roots: 1}
	f := trial.HeapFaults(least, dropOf(0), api.Poll)
	f.Wrong = append(f.Wrong, trial.Wrong{Job: getOf(0, 0, 0), Errno: api.ErrArg}, trial.Wrong{Job: putOf(0, 0, -1), Errno: api.ErrArg},
		trial.Wrong{Job: showOf(0, 0), Errno: api.ErrArg}, trial.Wrong{Job: seeOf(0, 0), Errno: api.ErrArg})
	mutators.HoldRefusals(t, f)
}

// Each wrong field, by Task and by Play, of each hand of each shape; and what is just in range is taken.
func TestP23_1_WrongFields(t *testing.T) {
	for _, sh := range append(trial.RightShapes(), full) {
		words := fresh(sh)
		for hand := range sh.Hands {
			hands := make([][]api.Job, hand+1)
			for _, c := range wrongs(sh) {
				hands[hand] = []api.Job{c.Job}
				if !mutators.IsRefused(sh, words, hands, 9, c.Errno) || !mutators.IsRefused(sh, words, hands, 0, c.Errno) {
					t.Fatal(sh, hand, c)
				}
				is := uint64(5)
				if k, e := mutator.Task(sh, hand, c.Job, &is); k != nil || e != c.Errno || is != 5 {
					t.Fatal(sh, hand, c, k, e, is)
				}
			}
			for _, f := range eachField(sh) {
				if isAtNone := (f.kind == api.Get || f.kind == api.Put) && f.b == 0 || (f.kind == api.MakeWeak || f.kind == api.GetWeak) && f.b == 0; isAtNone {
					for _, b := range []int{0, -1, 1} {
						if k, e := mutator.Task(sh, hand, api.Job{Kind: f.kind, B: b}, nil); k != nil || e != api.ErrArg {
							t.Fatal(sh, f, k, e)
						}
					}
					continue
				}
				first := api.Job{Kind: f.kind, C: f.leastC}
				final := api.Job{Kind: f.kind, A: max(f.a-1, 0), B: max(f.b-1, 0), C: max(f.c-1, 0)}
				hands[hand] = []api.Job{first, final}
				if x, a := play(t, sh, words, hands, nil, 100); !x.Ended || len(a[hand]) != 2 {
					t.Fatal(sh, hand, f, x, a)
				}
			}
		}
	}
}

// Of Task: the shape comes ahead of the kind, that ahead of the hand and of the fields; a hand that isn't the shape's is refused,
// whatever its job is.
func TestP23_1_TaskErrors(t *testing.T) {
	jobs := []api.Job{poll, newOf(0), dropOf(9), {Kind: 10}, {}, {Kind: -1, A: -1}}
	for i, sh := range trial.WrongShapes() {
		for _, j := range jobs {
			if k, e := mutator.Task(sh, i%5-1, j, nil); k != nil || e != api.ErrShape {
				t.Fatal(sh, j, k, e)
			}
		}
	}
	for _, sh := range trial.RightShapes() {
		for _, hand := range append(trial.Ends(), sh.Hands, sh.Hands+1, api.MaxHands, 1<<32, 1<<32+1) {
			for _, j := range jobs {
				want := api.ErrArg
				if j.Kind < api.New || j.Kind > api.Poll {
					want = api.ErrKind
				}
				is := uint64(9)
				if k, e := mutator.Task(sh, hand, j, &is); k != nil || e != want || is != 9 {
					t.Fatal(sh, hand, j, k, e)
				}
			}
		}
	}
}

// Of the shape, of the words, of limits and of most errors come ahead of a job's; a job's is that of the first one, hand by hand and
// job by job; and of one job ErrKind is ahead of ErrArg. Hands that the shape doesn't have may be there, as long as they have no jobs.
func TestP23_1_WhatComesFirst(t *testing.T) {
	odd := api.Job{Kind: 10, A: -1, B: 3, C: 5}
	fine, wrong, far := dropOf(1), dropOf(2), putOf(0, 0, -2)
	long := slices.Repeat([]api.Job{fine}, api.MaxJobs+1)
	words := fresh(duo)
	least := api.Shape{Objects: 1, Hands: 1, Roots: 1}
	for _, c := range []struct {
		name     string
		shape    api.Shape
		words    []uint64
		hands    [][]api.Job
		schedule []int
		most     int
		want     api.Errno
	}{
		{"fine", duo, words, [][]api.Job{{fine, poll}, {newOf(0)}}, nil, 9, api.OK},
		{"a field", duo, words, [][]api.Job{{wrong}}, nil, 9, api.ErrArg},
		{"a field, and no steps", duo, words, [][]api.Job{{wrong}}, nil, 0, api.ErrArg},
		{"a field below its range", duo, words, [][]api.Job{{far}}, nil, 9, api.ErrArg},
		{"a kind, and no steps", duo, words, [][]api.Job{{odd}}, nil, 0, api.ErrKind},
		{"Collect", duo, words, [][]api.Job{{{Kind: api.Collect}}}, nil, 9, api.ErrKind},
		{"a field, then a kind", duo, words, [][]api.Job{{wrong}, {odd}}, nil, 9, api.ErrArg},
		{"a kind, then a field", duo, words, [][]api.Job{{odd}, {far}}, nil, 9, api.ErrKind},
		{"a kind amid", duo, words, [][]api.Job{{fine, odd, far}}, nil, 9, api.ErrKind},
		{"a field amid", duo, words, [][]api.Job{{fine, far, odd}}, nil, 9, api.ErrArg},
		{"a kind of 0", duo, words, [][]api.Job{{{}}, {far}}, nil, 9, api.ErrKind},
		{"a hand that isn't there", duo, words, [][]api.Job{{fine}, {fine}, {poll}}, nil, 9, api.ErrArg},
		{"and then a kind", duo, words, [][]api.Job{nil, nil, {poll, odd}}, nil, 9, api.ErrArg},
		{"its kind", duo, words, [][]api.Job{nil, nil, {odd, poll}}, nil, 9, api.ErrKind},
		{"a kind ahead of it", duo, words, [][]api.Job{nil, {odd}, {poll}}, nil, 9, api.ErrKind},
		{"hands without jobs", duo, words, [][]api.Job{{fine}, nil, {}, nil, nil, nil, nil, nil}, nil, 9, api.OK},
		{"as many jobs as may be", duo, words, [][]api.Job{nil, long[1:]}, nil, 9, api.OK},
		{"as many hands as may be", full, fresh(full), slices.Repeat([][]api.Job{{fine}}, 3), nil, 9, api.OK},
		{"as many steps as may be", duo, words, [][]api.Job{{fine}}, make([]int, api.MaxSteps), api.MaxSteps, api.OK},
		{"most below 0", duo, words, [][]api.Job{{odd}}, nil, -1, api.ErrArg},
		{"most", duo, words, [][]api.Job{{wrong}}, nil, api.MaxSteps + 1, api.ErrLong},
		{"a schedule", duo, words, [][]api.Job{{far}}, make([]int, api.MaxSteps+1), -1, api.ErrLong},
		{"jobs", duo, words, [][]api.Job{{wrong}, nil, long}, nil, -1, api.ErrLong},
		{"hands", duo, words, append(slices.Repeat([][]api.Job{{far}}, api.MaxHands), nil), nil, -1, api.ErrLong},
		{"a word too few", duo, words[1:], [][]api.Job{{wrong}, long}, nil, -1, api.ErrSize},
		{"a word too many", duo, append(slices.Clone(words), 0), [][]api.Job{{wrong}, long}, nil, -1, api.ErrSize},
		{"no words", duo, nil, [][]api.Job{{wrong}, long}, nil, -1, api.ErrSize},
		{"words of another shape", least, words, [][]api.Job{{wrong}}, nil, 9, api.ErrSize},
		{"as many words as no memory has", duo, make([]uint64, api.MaxWords+1), [][]api.Job{{wrong}}, nil, 9, api.ErrSize},
		{"no shape", api.Shape{Room: 5}, nil, [][]api.Job{{wrong}, long}, nil, -1, api.ErrShape},
		{"a hand too many", api.Shape{Objects: 1, Hands: api.MaxHands, Roots: 1}, nil, [][]api.Job{{odd}}, nil, 9, api.ErrShape},
		{"the least shape", least, make([]uint64, 13), [][]api.Job{{dropOf(0), newOf(0), copyOf(0, 0), takeOf(0), poll}}, nil, 9, api.OK},
		{"the least shape has no slots", least, make([]uint64, 13), [][]api.Job{{getOf(0, 0, 0), odd}}, nil, 9, api.ErrArg},
		{"the least shape has no weak words", least, make([]uint64, 13), [][]api.Job{{seeOf(0, 0), odd}}, nil, 9, api.ErrArg},
		{"the least shape and a kind", least, make([]uint64, 13), [][]api.Job{{poll, odd}, {poll}}, nil, 9, api.ErrKind},
	} {
		x, a, e := mutator.Play(c.shape, c.words, c.hands, c.schedule, c.most)
		if e != c.want || e != api.OK && (a != nil || x.Steps != nil || x.Words != nil || x.Ended) {
			t.Errorf("%s: %v %v %v; want %v", c.name, x, a, e, c.want)
		}
	}
}

// The fields that a kind doesn't use are not looked at, and the shape's Room neither.
func TestP23_1_FieldsNotUsed(t *testing.T) {
	words := whites(momentOf(api.Sweep, 1, 4))
	for _, n := range append(trial.Ends(), 2, 5, 64) {
		sh := duo
		sh.Room = n
		var plain, odd []api.Job
		for _, f := range eachField(duo) {
			j := api.Job{Kind: f.kind}
			plain = append(plain, j)
			for _, field := range []struct {
				end int
				at  *int
			}{{f.a, &j.A}, {f.b, &j.B}, {f.c, &j.C}} {
				if field.end == 0 {
					*field.at = n
				}
			}
			j.H = uint64(n)
			odd = append(odd, j)
		}
		x, a := play(t, duo, words, [][]api.Job{nil, plain}, nil, 300)
		y, b := play(t, sh, words, [][]api.Job{nil, odd}, nil, 300)
		if !x.Ended || !trial.SameTrace(x, y) || !trial.SameAnswers(a, b) {
			t.Error(n, x, a, y, b)
		}
	}
}

func TestP23_1_NothingToDo(t *testing.T) {
	from := trial.Source(21)
	for _, sh := range trial.RightShapes() {
		for _, j := range []api.Job{newOf(0), copyOf(0, 0), takeOf(0), poll} {
			mutators.HoldNothingPlayed(t, sh, anyWords(&from, sh), j)
		}
	}
}

func TestP23_1_LeavesItsArguments(t *testing.T) {
	words := puts(whites(momentOf(api.Mark, 1, 4)), 10, tagged(1, 4), 11, tagged(2, last))
	mutators.HoldMemory(t, duo, words, [][]api.Job{{newOf(0), putOf(0, 0, 1), takeOf(0)}, {getOf(0, 0, 1), dropOf(0), showOf(1, 0), seeOf(0, 0)}}, []int{1, 0, -1}, 500)
	mutators.HoldMemory(t, duo, words, [][]api.Job{{poll, newOf(0)}, {copyOf(0, 1), dropOf(0)}}, []int{0}, 300)
}

// Two tasks of one job, and of one hand, stand each for itself, but for what the hand has told last.
func TestP23_1_TasksApart(t *testing.T) {
	words := fresh(duo)
	is := uint64(never)
	var tasks []turn.Task
	for _, j := range []api.Job{newOf(0), newOf(0), putOf(0, 0, 0), getOf(0, 0, 1), poll, dropOf(0)} {
		k, e := mutator.Task(duo, 0, j, &is)
		if e != api.OK || is != never {
			t.Fatal(j, e, is)
		}
		tasks = append(tasks, k)
	}
	mutator.Bye(duo, 0)
	var all []string
	for _, k := range tasks {
		steps, a, behind := trial.Drive(t, k, words, nil)
		all = append(all, fmt.Sprint(len(steps), a))
		words = behind
	}
	want := []string{"9 {true 1}", "8 {true 2}", "5 {true 2}", "5 {true 2}", "1 {true 0}", "2 {true 0}"}
	if !slices.Equal(all, want) || tasks[0].Answer() != told(1) || tasks[1].Answer() != told(2) || is != 0 {
		t.Error(all, is)
	}
	// One hand's telling is not another one's.
	other := uint64(never)
	first, _ := mutator.Task(duo, 1, poll, &other)
	second, _ := mutator.Task(duo, 1, poll, nil)
	third, _ := mutator.Task(duo, 1, poll, &other)
	for i, k := range []turn.Task{first, second, third} {
		if steps, _, _ := trial.Drive(t, k, words, nil); len(steps) != []int{2, 2, 1}[i] {
			t.Error(i, steps)
		}
	}
}

// Nothing is kept from call to call: between calls that are refused, and calls with other shapes, each one answers the same.
func TestP23_1_NothingIsKept(t *testing.T) {
	from := trial.Source(22)
	wrong := trial.WrongShapes()
	for i := range 300 {
		sh, other := from.SmallShape(), from.SmallShape()
		words, others := anyWords(&from, sh), anyWords(&from, other)
		hands, schedule := anyJobs(&from, sh, 4), from.Schedule(60)
		x, a := play(t, sh, words, hands, schedule, 150)
		mutator.Play(wrong[i*31%len(wrong)], words, hands, schedule, 150)
		mutator.Play(sh, words[1:], hands, schedule, 150)
		mutator.Play(sh, words, [][]api.Job{{poll, {Kind: 10}}}, schedule, 150)
		play(t, other, others, anyJobs(&from, other, 4), schedule, 50)
		if y, b := play(t, sh, words, hands, schedule, 150); !trial.SameTrace(x, y) || !trial.SameAnswers(a, b) {
			t.Fatalf("%+v: %v %v; was %v %v", sh, y, b, x, a)
		}
	}
}
