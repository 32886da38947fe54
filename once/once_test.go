package once_test

import (
	"math"
	"slices"
	"testing"

	"midden/api"
	"midden/cells"
	"midden/once"
	"midden/turn"
)

var (
	doIt   = api.Job{Kind: once.Do}
	failIt = api.Job{Kind: once.Fail}
	seenIt = api.Job{Kind: once.Seen}
	first  = api.Answer{OK: true, Val: 1}
	failed = api.Answer{Val: 1}
	later  = api.Answer{OK: true}
)

// rooms that are none.
var noRooms = append([]int{0, api.MaxRoom + 1, api.MaxRoom + 2, 1 << 32, 1<<32 + 1, 1 << 62, 1<<63 - 32}, ends[:]...)

func TestP4_1_Examples(t *testing.T) {
	one := api.Shape{Room: 1}
	hands := [][]api.Job{{doIt}, {doIt}, {failIt}}
	x, a, e := once.Play(one, []uint64{0, 0}, hands, []int{0, 0, 0, 1, 1}, 100)
	if e != api.OK || handsOf(x) != "0002211" || !x.Ended || !slices.Equal(x.Words, []uint64{2, 1}) || !sameAnswers(a, [][]api.Answer{{first}, {later}, {later}}) {
		t.Error(x, a, e)
	}
	x, a, e = once.Play(one, []uint64{0, 0}, hands, []int{2, 0}, 100)
	if e != api.OK || handsOf(x) != "201201" || !x.Ended || !slices.Equal(x.Words, []uint64{2, 0}) || !sameAnswers(a, [][]api.Answer{{later}, {later}, {failed}}) {
		t.Error(x, a, e)
	}
	x, a, e = once.Play(one, []uint64{0, 0}, hands, []int{1, 0, 0, 0}, 4)
	steps := []api.Step{
		{Hand: 1, Act: api.CAS, Put: 1, OK: true},
		{Act: api.CAS, Had: 1, Put: 1},
		{Act: api.Load, Had: 1, Put: 1, OK: true},
		{Act: api.Load, Had: 1, Put: 1, OK: true},
	}
	if e != api.OK || x.Ended || !slices.Equal(x.Steps, steps) || !slices.Equal(x.Words, []uint64{1, 0}) || !sameAnswers(a, make([][]api.Answer, 3)) {
		t.Error(x, a, e)
	}
	if once.Do != 1 || once.Fail != 2 || once.Seen != 3 {
		t.Error("the kinds", once.Do, once.Fail, once.Seen)
	}
}

// The steps of each kind, with every field: the last key of three.
func TestP4_1_StepsOfEachKind(t *testing.T) {
	key := func(kind int) api.Job { return api.Job{Kind: kind, A: 2} }
	load := func(v uint64) api.Step { return api.Step{Act: api.Load, At: 2, Had: v, Put: v, OK: true} }
	claimed := api.Step{Act: api.CAS, At: 2, Put: 1, OK: true}
	stored := api.Step{Act: api.Store, At: 2, Had: 1, Put: 2, OK: true}
	late := api.Step{Act: api.CAS, At: 2, Had: 2, Put: 2}
	for i, c := range []struct {
		jobs  []api.Job
		steps []api.Step
		told  []api.Answer
		words []uint64
	}{
		{[]api.Job{key(once.Do)}, []api.Step{claimed, {Act: api.Add, At: 5, Had: 7, Put: 8, OK: true}, stored}, []api.Answer{first}, []uint64{5, 6, 2, 0, 0, 8}},
		{[]api.Job{key(once.Fail)}, []api.Step{claimed, stored}, []api.Answer{failed}, []uint64{5, 6, 2, 0, 0, 7}},
		{[]api.Job{key(once.Seen)}, []api.Step{load(0)}, []api.Answer{{}}, []uint64{5, 6, 0, 0, 0, 7}},
		{[]api.Job{key(once.Fail), key(once.Do), key(once.Fail), key(once.Seen)}, []api.Step{claimed, stored, late, load(2), late, load(2), load(2)}, []api.Answer{failed, later, later, {OK: true, Val: 2}}, []uint64{5, 6, 2, 0, 0, 7}},
	} {
		x, a, e := once.Play(api.Shape{Room: 3}, []uint64{5, 6, 0, 0, 0, 7}, [][]api.Job{c.jobs}, nil, 50)
		if e != api.OK || !sameTrace(x, api.Trace{Steps: c.steps, Words: c.words, Ended: true}) || !sameAnswers(a, [][]api.Answer{c.told}) {
			t.Errorf("%d: %v %v %v", i, x, a, e)
		}
	}
}

// Whatever number stands in a state, Seen tells it, and only 2 is done.
func TestP4_1_SeenTellsTheState(t *testing.T) {
	for _, v := range []uint64{0, 1, 2, 3, 1 << 32, 1<<32 + 2, 1<<63 + 2, math.MaxUint64} {
		x, a, e := once.Play(api.Shape{Room: 1}, []uint64{v, 2}, [][]api.Job{{seenIt}}, nil, 9)
		steps := []api.Step{{Act: api.Load, Had: v, Put: v, OK: true}}
		if e != api.OK || !sameTrace(x, api.Trace{Steps: steps, Words: []uint64{v, 2}, Ended: true}) || !sameAnswers(a, [][]api.Answer{{{OK: v == 2, Val: v}}}) {
			t.Error(v, x, a, e)
		}
	}
}

// A state by hand that is neither 0 nor 2: who comes waits, until another hand stores 2, or for ever.
func TestP4_1_WaitsForEver(t *testing.T) {
	for _, v := range []uint64{1, 3, 1<<32 + 2, math.MaxUint64} {
		words := []uint64{v, 5}
		x, a, e := once.Play(api.Shape{Room: 1}, words, [][]api.Job{{doIt}, {failIt}}, nil, api.MaxSteps)
		if e != api.OK || len(x.Steps) != api.MaxSteps || x.Ended || !slices.Equal(x.Words, words) || !sameAnswers(a, make([][]api.Answer, 2)) {
			t.Error(v, len(x.Steps), x.Ended, a, e)
		}
	}
}

// A count at the top of its type goes on with 0.
func TestP4_1_CountPassesItsEnd(t *testing.T) {
	x, _, e := once.Play(api.Shape{Room: 1}, []uint64{0, math.MaxUint64}, [][]api.Job{{doIt}}, nil, 9)
	if e != api.OK || !slices.Equal(x.Words, []uint64{2, 0}) || x.Steps[1].Had != math.MaxUint64 || x.Steps[1].Put != 0 {
		t.Error(x, e)
	}
}

func TestP4_1_SizeAndFresh(t *testing.T) {
	for room := 1; room <= api.MaxRoom; room++ {
		// Of the shape nothing else is looked at.
		sh := api.Shape{Objects: -1, Slots: math.MaxInt, Hands: math.MinInt, Roots: -7, Weaks: 99, Room: room}
		size, e := once.Size(sh)
		words, e2 := once.Fresh(sh)
		if e != api.OK || e2 != api.OK || size != 2*room || !slices.Equal(words, make([]uint64, 2*room)) {
			t.Error(room, size, e, words, e2)
		}
		words[0] = 9
		_ = append(words, 9)
		if again, _ := once.Fresh(sh); again[0] != 0 {
			t.Error("the words are shared")
		}
	}
	for _, room := range noRooms {
		sh := api.Shape{Objects: 1, Slots: 1, Hands: 1, Roots: 1, Weaks: 1, Room: room}
		if size, e := once.Size(sh); size != 0 || e != api.ErrShape {
			t.Error(room, size, e)
		}
		if words, e := once.Fresh(sh); words != nil || e != api.ErrShape {
			t.Error(room, words, e)
		}
	}
}

func TestP4_1_TaskErrors(t *testing.T) {
	kinds := append([]int{0, 4, 5, 1 << 32, 1<<32 + once.Do}, ends[:]...)
	refuse := func(sh api.Shape, j api.Job, want api.Errno) {
		t.Helper()
		for _, hand := range []int{0, 3, -1, math.MinInt, math.MaxInt} {
			if k, e := once.Task(sh, hand, j); k != nil || e != want {
				t.Errorf("%v, hand %d, %v: %v, %v; want %v", sh, hand, j, k, e, want)
			}
		}
	}
	for _, room := range noRooms {
		for _, kind := range append([]int{once.Do, once.Fail, once.Seen}, kinds...) {
			refuse(api.Shape{Room: room}, api.Job{Kind: kind, A: room}, api.ErrShape)
			refuse(api.Shape{Room: room}, api.Job{Kind: kind}, api.ErrShape)
		}
	}
	for _, room := range []int{1, 2, api.MaxRoom} {
		sh := api.Shape{Room: room}
		for _, key := range append([]int{0, room - 1, room, room + 1, 2 * room, 1 << 32}, ends[:]...) {
			for _, kind := range kinds {
				refuse(sh, api.Job{Kind: kind, A: key}, api.ErrKind)
			}
			for _, kind := range []int{once.Do, once.Fail, once.Seen} {
				j := api.Job{Kind: kind, A: key, B: -1, C: math.MaxInt, H: math.MaxUint64}
				if key < 0 || key >= room {
					refuse(sh, j, api.ErrArg)
				} else if k, e := once.Task(sh, 0, j); k == nil || e != api.OK {
					t.Error(room, j, k, e)
				}
			}
		}
	}
}

// A task alone, for a hand that is any number, on a memory by hand: it goes as the plain code does, also where
// the memory doesn't have its words.
func TestP4_1_TaskAlone(t *testing.T) {
	const room, most = 3, 6
	hands := append([]int{0, 1, api.MaxHands, 1000}, ends[:]...)
	for size := range 2*room + 2 {
		for _, state := range []uint64{0, 1, 2, 3, math.MaxUint64} {
			for kind := once.Do; kind <= once.Seen; kind++ {
				for key := range room {
					hand := hands[(size+key)%len(hands)]
					words := slices.Repeat([]uint64{state}, size)
					m, _ := cells.New(words)
					holdTask(t, room, hand, api.Job{Kind: kind, A: key, B: -9, C: 9, H: 9}, m, words, most)
				}
			}
		}
	}
	for kind := once.Do; kind <= once.Seen; kind++ {
		holdTask(t, room, 5, api.Job{Kind: kind}, nil, nil, most)
	}
}

func holdTask(t *testing.T, room, hand int, j api.Job, m *cells.Mem, words []uint64, most int) {
	t.Helper()
	k, e := once.Task(api.Shape{Room: room}, hand, j)
	if e != api.OK {
		t.Fatal(j, e)
	}
	r := begin(room, hand, j)
	defer r.stop()
	for i := range most {
		s, state := k.Step(m)
		if want := lay(words, r.next); s != want {
			t.Fatalf("%v of hand %d, step %d: %+v, want %+v", j, hand, i, s, want)
		}
		ended := r.took(s)
		if state != turn.Going && state != turn.Ended || ended != (state == turn.Ended) {
			t.Fatalf("%v of hand %d, step %d: %d, but ended is %v", j, hand, i, state, ended)
		}
		if ended {
			if k.Answer() != r.told {
				t.Fatalf("%v of hand %d: %v, want %v", j, hand, k.Answer(), r.told)
			}
			break
		}
	}
	if !slices.Equal(m.Words(), words) {
		t.Fatalf("%v of hand %d: %v, want %v", j, hand, m.Words(), words)
	}
}

// holdRun fails, if the run by the schedule is not what the plain code makes of it.
func holdRun(t *testing.T, words []uint64, hands [][]api.Job, schedule []int, most int) (api.Trace, [][]api.Answer) {
	t.Helper()
	x, a, e := once.Play(api.Shape{Room: len(words) / 2}, words, hands, schedule, most)
	wantX, wantA := model(words, hands, schedule, most)
	if e != api.OK || !sameTrace(x, wantX) || !sameAnswers(a, wantA) {
		t.Fatalf("%v %v %v %d: %v %v %v; want %v %v", words, hands, schedule, most, x, a, e, wantX, wantA)
	}
	return x, a
}

func TestP4_1_AnyWordsByModel(t *testing.T) {
	from := source(1)
	values := [...]uint64{0, 0, 0, 1, 2, 2, 3, 1<<32 + 2, math.MaxUint64}
	for range 3000 {
		words := make([]uint64, 2*(1+from.below(4)))
		for i := range words {
			words[i] = values[from.below(len(values))]
		}
		hands := from.jobs(from.below(api.MaxHands+1), 5, len(words)/2)
		holdRun(t, words, hands, from.schedule(from.below(50)), from.below(90))
	}
}

// Do, Fail and Seen in every order, by one hand and by three, from every mix of states.
func TestP4_1_EveryOrder(t *testing.T) {
	kinds := []api.Job{doIt, failIt, seenIt}
	for state := range uint64(4) {
		for _, order := range [][3]int{{0, 1, 2}, {0, 2, 1}, {1, 0, 2}, {1, 2, 0}, {2, 0, 1}, {2, 1, 0}} {
			a, b, c := kinds[order[0]], kinds[order[1]], kinds[order[2]]
			for most := range 12 {
				holdRun(t, []uint64{state, 4}, [][]api.Job{{a, b, c}}, nil, most)
			}
			for schedule := range schedules(3, 6) {
				holdRun(t, []uint64{state, 4}, [][]api.Job{{a}, {b}, {c}}, schedule, 20)
			}
		}
	}
}

// One key's jobs touch no other key's words.
func TestP4_1_KeysApart(t *testing.T) {
	for room := 1; room <= api.MaxRoom; room++ {
		for _, key := range []int{0, room / 2, room - 1} {
			words := slices.Repeat([]uint64{77}, 2*room)
			words[key], words[room+key] = 0, 3
			jobs := [][]api.Job{{{Kind: once.Do, A: key}, {Kind: once.Seen, A: key}}}
			x, a := holdRun(t, words, jobs, nil, 9)
			words[key], words[room+key] = 2, 4
			if !slices.Equal(x.Words, words) || !sameAnswers(a, [][]api.Answer{{first, {OK: true, Val: 2}}}) {
				t.Error(room, key, x, a)
			}
		}
	}
}

// No hands, hands without jobs, no steps: the words are told as they are.
func TestP4_1_NothingToDo(t *testing.T) {
	words := []uint64{0, 1, 2, 3}
	for _, hands := range [][][]api.Job{nil, {}, {nil}, {nil, {}, nil}, make([][]api.Job, api.MaxHands)} {
		for _, most := range []int{0, 5} {
			for _, schedule := range [][]int{nil, {}, {3, -1}} {
				x, a, e := once.Play(api.Shape{Room: 2}, words, hands, schedule, most)
				if e != api.OK || !sameTrace(x, api.Trace{Words: words, Ended: true}) || !sameAnswers(a, make([][]api.Answer, len(hands))) {
					t.Error(hands, x, a, e)
				}
			}
		}
		if w, a, e := once.Free(api.Shape{Room: 2}, hands); e != api.OK || !slices.Equal(w, make([]uint64, 4)) || !sameAnswers(a, make([][]api.Answer, len(hands))) {
			t.Error(hands, w, a, e)
		}
	}
	x, a, e := once.Play(api.Shape{Room: 2}, words, [][]api.Job{{doIt}, nil}, []int{0}, 0)
	if e != api.OK || !sameTrace(x, api.Trace{Words: words}) || !sameAnswers(a, make([][]api.Answer, 2)) {
		t.Error("no step", x, a, e)
	}
}

// most in the middle of a task: what it has done so far stands in the words, and no answer is told.
func TestP4_1_MostInTheMiddle(t *testing.T) {
	hands := [][]api.Job{nil, {doIt, failIt}, {}}
	for most, c := range []struct {
		words []uint64
		told  []api.Answer
	}{
		{[]uint64{0, 0}, nil},
		{[]uint64{1, 0}, nil},
		{[]uint64{1, 1}, nil},
		{[]uint64{2, 1}, []api.Answer{first}},
		{[]uint64{2, 1}, []api.Answer{first}},
		{[]uint64{2, 1}, []api.Answer{first, later}},
		{[]uint64{2, 1}, []api.Answer{first, later}},
	} {
		x, a, e := once.Play(api.Shape{Room: 1}, []uint64{0, 0}, hands, []int{4}, most)
		if e != api.OK || len(x.Steps) != min(most, 5) || x.Ended != (most >= 5) || !slices.Equal(x.Words, c.words) || !sameAnswers(a, [][]api.Answer{nil, c.told, nil}) {
			t.Error(most, x, a, e)
		}
	}
}

// Schedules that are empty, shorter than the run, just as long, and longer.
func TestP4_1_Schedules(t *testing.T) {
	hands := [][]api.Job{{doIt, seenIt}, nil, {failIt, doIt}, {seenIt}}
	from := source(2)
	long := from.schedule(200)
	for n := range len(long) {
		x, _ := holdRun(t, []uint64{0, 0}, hands, long[:n], 300)
		if !x.Ended {
			t.Fatal(n, x)
		}
	}
}

// At the limits: the greatest room, 8 hands with 256 jobs each, a schedule and most of 65536.
func TestP4_1_AtTheLimits(t *testing.T) {
	from := source(3)
	hands := make([][]api.Job, api.MaxHands)
	for h := range hands {
		for i := range api.MaxJobs {
			hands[h] = append(hands[h], api.Job{Kind: once.Do + from.below(2), A: i % api.MaxRoom})
		}
	}
	x, a := holdRun(t, make([]uint64, 2*api.MaxRoom), hands, from.schedule(api.MaxSteps), api.MaxSteps)
	if !x.Ended || len(a[api.MaxHands-1]) != api.MaxJobs {
		t.Error(len(x.Steps), x.Ended)
	}
	holdOnce(t, api.MaxRoom, hands, x.Words, a)
	w, a, e := once.Free(api.Shape{Room: api.MaxRoom}, hands)
	if e != api.OK {
		t.Fatal(e)
	}
	holdOnce(t, api.MaxRoom, hands, w, a)
}

// Each line has also the faults that are looked for behind its own.
func TestP4_1_ErrorsInOrder(t *testing.T) {
	words := func(n int) []uint64 { return make([]uint64, n) }
	kind, arg, fine := []api.Job{{Kind: 4, A: -1}}, []api.Job{{Kind: once.Do, A: 2}}, []api.Job{{Kind: once.Do, A: 1}}
	many := append(slices.Repeat([][]api.Job{fine}, api.MaxHands), kind)
	long := slices.Repeat(kind, api.MaxJobs+1)
	for _, c := range []struct {
		name     string
		room     int
		words    []uint64
		hands    [][]api.Job
		schedule []int
		most     int
		want     api.Errno
	}{
		{"room", 0, words(3), many, make([]int, api.MaxSteps+1), -1, api.ErrShape},
		{"room below 0", -1, nil, many, nil, -1, api.ErrShape},
		{"room past the limit", api.MaxRoom + 1, words(2 * (api.MaxRoom + 1)), nil, nil, 0, api.ErrShape},
		{"no words", 2, nil, many, nil, -1, api.ErrSize},
		{"a word less", 2, words(3), many, make([]int, api.MaxSteps+1), -1, api.ErrSize},
		{"a word more", 2, words(5), nil, nil, 0, api.ErrSize},
		{"words without end", 2, words(api.MaxWords + 1), nil, nil, 0, api.ErrSize},
		{"half the words", api.MaxRoom, words(api.MaxRoom), nil, nil, 0, api.ErrSize},
		{"hands", 2, words(4), many, nil, -1, api.ErrLong},
		{"jobs", 2, words(4), [][]api.Job{kind, nil, long}, nil, -1, api.ErrLong},
		{"schedule", 2, words(4), [][]api.Job{kind}, make([]int, api.MaxSteps+1), -1, api.ErrLong},
		{"most", 2, words(4), [][]api.Job{kind}, nil, api.MaxSteps + 1, api.ErrLong},
		{"the greatest most", 2, words(4), [][]api.Job{kind}, nil, math.MaxInt, api.ErrLong},
		{"most below 0", 2, words(4), [][]api.Job{kind}, nil, -1, api.ErrArg},
		{"the least most", 2, words(4), nil, nil, math.MinInt, api.ErrArg},
		{"kind", 2, words(4), [][]api.Job{fine, kind, arg}, nil, 0, api.ErrKind},
		{"kind 0", 2, words(4), [][]api.Job{{fine[0], {}}}, nil, 9, api.ErrKind},
		{"key", 2, words(4), [][]api.Job{nil, {fine[0], arg[0], kind[0]}}, nil, 9, api.ErrArg},
		{"key below 0", 2, words(4), [][]api.Job{{{Kind: once.Seen, A: -1}}, kind}, nil, 0, api.ErrArg},
	} {
		sh := api.Shape{Room: c.room}
		x, a, e := once.Play(sh, c.words, c.hands, c.schedule, c.most)
		if e != c.want || x.Steps != nil || x.Words != nil || x.Ended || a != nil {
			t.Errorf("%s: %v %v %v; want %v", c.name, x, a, e, c.want)
		}
		if slices.ContainsFunc(c.words, func(w uint64) bool { return w != 0 }) {
			t.Errorf("%s: the words have changed", c.name)
		}
	}
	for _, c := range []struct {
		name  string
		room  int
		hands [][]api.Job
		want  api.Errno
	}{
		{"room", 0, many, api.ErrShape},
		{"room past the limit", api.MaxRoom + 1, nil, api.ErrShape},
		{"the least room", math.MinInt, nil, api.ErrShape},
		{"hands", 2, many, api.ErrLong},
		{"jobs", 2, [][]api.Job{kind, nil, long}, api.ErrLong},
		{"kind", 2, [][]api.Job{fine, kind, arg}, api.ErrKind},
		{"key", 2, [][]api.Job{nil, {fine[0], arg[0], kind[0]}}, api.ErrArg},
	} {
		if w, a, e := once.Free(api.Shape{Room: c.room}, c.hands); w != nil || a != nil || e != c.want {
			t.Errorf("free, %s: %v %v %v; want %v", c.name, w, a, e, c.want)
		}
	}
}

func TestP4_1_LeavesItsArguments(t *testing.T) {
	words := []uint64{0, 2, 5, 6, 7}
	schedule := []int{1, 0, -1, 7, 9}
	jobs := []api.Job{{Kind: once.Do}, {Kind: once.Fail, A: 1}, {Kind: -1}}
	hands := [][]api.Job{jobs[:2], jobs[:1], {{Kind: -1}}}
	heldWords, heldSchedule, heldJobs := slices.Clone(words), slices.Clone(schedule), slices.Clone(jobs)
	play := func() (api.Trace, [][]api.Answer) {
		x, a, e := once.Play(api.Shape{Room: 2}, words[:4], hands[:2], schedule[:2], 30)
		if e != api.OK || !x.Ended || !slices.Equal(x.Words, []uint64{2, 2, 6, 6}) {
			t.Fatal(x, a, e)
		}
		return x, a
	}
	x, a := play()
	w, b, e := once.Free(api.Shape{Room: 2}, hands[:2])
	if e != api.OK || !slices.Equal(w, []uint64{2, 2, 1, 0}) {
		t.Fatal(w, b, e)
	}
	for _, list := range [][]uint64{x.Words, w} {
		list[0] = 77
		_ = append(list, 78)
	}
	for _, told := range [][][]api.Answer{a, b} {
		held := slices.Clone(told[1])
		told[0][0] = api.Answer{Val: 99}
		_ = append(told[0], api.Answer{Val: 98}, api.Answer{Val: 97})
		if !slices.Equal(told[1], held) {
			t.Error("the hands' answers share memory", told, held)
		}
	}
	if !slices.Equal(words, heldWords) || !slices.Equal(schedule, heldSchedule) || !slices.Equal(jobs, heldJobs) || hands[2][0].Kind != -1 {
		t.Error(words, schedule, jobs, hands)
	}
	if y, c := play(); y.Words[0] != 2 || c[0][0].Val == 99 {
		t.Error("something was kept", y, c)
	}
}
