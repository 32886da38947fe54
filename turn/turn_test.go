package turn_test

import (
	"math"
	"math/big"
	"slices"
	"testing"

	"midden/api"
	"midden/cells"
	"midden/turn"
)

// A source makes numbers, always the same ones.
type source uint64

func (s *source) below(n int) int {
	*s = *s*6364136223846793005 + 1442695040888963407
	return int(uint64(*s) >> 33 % uint64(n))
}

// values are few, so that a CAS often finds what it expects, and sums pass 2^64.
var values = [...]uint64{0, 1, 2, 1 << 63, math.MaxUint64}

func (s *source) value() uint64 { return values[s.below(len(values))] }

func (s *source) words(n int) []uint64 {
	out := make([]uint64, n)
	for i := range out {
		out[i] = s.value()
	}
	return out
}

var ends = [...]int{math.MinInt, math.MinInt + 1, -2, -1, math.MaxInt - 1, math.MaxInt}

// place is mostly a word, at times one just past the end, or far from all.
func (s *source) place(size int) int {
	if s.below(10) == 0 {
		return ends[s.below(len(ends))]
	}
	return s.below(size + 1)
}

func (s *source) schedule(n int) []int {
	out := make([]int, n)
	for i := range out {
		if out[i] = s.below(40) - 20; s.below(8) == 0 {
			out[i] = ends[s.below(len(ends))]
		}
	}
	return out
}

// expect: what a CAS expects, as the int that Go turns into that word.
func (s *source) expect() int { return []int{0, 1, 2, math.MinInt, -1}[s.below(5)] }

// acts: jobs of Acts, up to most for each hand; some hands have none.
func (s *source) acts(hands, most, size int) [][]api.Job {
	out := make([][]api.Job, hands)
	for h := range out {
		for range s.below(most + 1) {
			out[h] = append(out[h], api.Job{Kind: api.Load + s.below(5), A: s.place(size), B: s.expect(), C: s.below(9), H: s.value()})
		}
	}
	return out
}

// The kinds of the tests' own jobs, of several steps each.
const (
	repeat = 21 // add H to word A, C times
	raise  = 22 // load word A, then a CAS of it to H more; from the load on again, until one is done
	move   = 23 // swap H into word A, then store what stood there into word B, then load word A
	await  = 24 // load word A until it is H, then add 1 to it
)

func (s *source) jobs(hands, most, size int) [][]api.Job {
	out := make([][]api.Job, hands)
	for h := range out {
		for range s.below(most + 1) {
			out[h] = append(out[h], api.Job{Kind: repeat + s.below(3), A: s.place(size), B: s.place(size), C: 1 + s.below(4), H: s.value()})
			if j := &out[h][len(out[h])-1]; j.Kind == raise { // where no word is, no CAS is ever done
				j.A = s.below(size)
			}
		}
	}
	return out
}

// A task is a job under way: which act is next, and what comes of its step. So a memory and a plain list of
// words can both be gone by it.
type task struct {
	hand, made int
	job        api.Job
	seen       uint64
	steps      []api.Step
	asked      int
	log        *[]string
}

// next tells the next act as cells.Script takes it.
func (k *task) next() api.Step {
	j := k.job
	s := api.Step{Hand: k.hand, Act: api.Load, At: j.A}
	switch {
	case j.Kind == repeat:
		s.Act, s.Put = api.Add, j.H
	case j.Kind == raise && k.made%2 == 1:
		s.Act, s.Had, s.Put = api.CAS, k.seen, k.seen+j.H
	case j.Kind == move && k.made == 0:
		s.Act, s.Put = api.Swap, j.H
	case j.Kind == move && k.made == 1:
		s.Act, s.At, s.Put = api.Store, j.B, k.seen
	case j.Kind == await && k.seen == j.H && k.made > 0:
		s.Act, s.Put = api.Add, 1
	case j.Kind < repeat:
		s.Act, s.Had, s.Put = j.Kind, uint64(j.B), j.H
	}
	return s
}

// took keeps what the step tells: has the task ended?
func (k *task) took(s api.Step) bool {
	k.made++
	k.seen = s.Had
	k.steps = append(k.steps, s)
	switch k.job.Kind {
	case repeat:
		return k.made == k.job.C
	case raise:
		return s.Act == api.CAS && s.OK
	case move:
		return k.made == 3
	case await:
		return s.Act == api.Add
	}
	return true
}

func (k *task) told() api.Answer { return api.Answer{OK: k.steps[len(k.steps)-1].OK, Val: k.seen} }

func (k *task) Step(m *cells.Mem) (api.Step, int) {
	if k.log != nil {
		*k.log = append(*k.log, "step")
	}
	a := k.next()
	s := m.Do(a.Hand, a.Act, a.At, a.Had, a.Put)
	if k.took(s) {
		return s, turn.Ended
	}
	return s, turn.Going
}

func (k *task) Answer() api.Answer {
	k.asked++
	if k.log != nil {
		*k.log = append(*k.log, "answer")
	}
	return k.told()
}

// A maker of tasks that keeps them, hand by hand.
type keeper struct{ tasks [api.MaxHands][]*task }

func (k *keeper) make(hand int, j api.Job) (turn.Task, api.Errno) {
	x := &task{hand: hand, job: j}
	k.tasks[hand] = append(k.tasks[hand], x)
	return x, api.OK
}

func makeOne(hand int, j api.Job) (turn.Task, api.Errno) { return &task{hand: hand, job: j}, api.OK }

// lay makes an act on plain words, and tells its step.
func lay(words []uint64, a api.Step) api.Step {
	s := api.Step{Hand: a.Hand, Act: a.Act, At: a.At, OK: true}
	if a.At < 0 || a.At >= len(words) {
		s.OK = a.Act != api.CAS
		return s
	}
	w := &words[a.At]
	s.Had = *w
	switch a.Act {
	case api.Store, api.Swap:
		*w = a.Put
	case api.Add:
		*w += a.Put
	case api.CAS:
		if s.OK = *w == a.Had; s.OK {
			*w = a.Put
		}
	}
	s.Put = *w
	return s
}

// among is pick modulo n, brought to 0 and above.
func among(pick, n int) int {
	return int(new(big.Int).Mod(big.NewInt(int64(pick)), big.NewInt(int64(n))).Int64())
}

// model is the run by the schedule, by DOC.md's words, on a plain list.
func model(words []uint64, hands [][]api.Job, schedule []int, most int) (api.Trace, [][]api.Answer) {
	trace := api.Trace{Words: slices.Clone(words)}
	answers := make([][]api.Answer, len(hands))
	under := make([]*task, len(hands))
	last := -1
	for {
		var on []int
		for h := range hands {
			if len(answers[h]) < len(hands[h]) {
				on = append(on, h)
			}
		}
		trace.Ended = len(on) == 0
		if trace.Ended || len(trace.Steps) == most {
			return trace, answers
		}
		i, _ := slices.BinarySearch(on, last+1)
		h := on[i%len(on)]
		if n := len(trace.Steps); n < len(schedule) {
			h = on[among(schedule[n], len(on))]
		}
		if under[h] == nil {
			under[h] = &task{hand: h, job: hands[h][len(answers[h])]}
		}
		s := lay(trace.Words, under[h].next())
		trace.Steps, last = append(trace.Steps, s), h
		if under[h].took(s) {
			answers[h], under[h] = append(answers[h], under[h].told()), nil
		}
	}
}

func sameTrace(a, b api.Trace) bool {
	return slices.Equal(a.Steps, b.Steps) && slices.Equal(a.Words, b.Words) && a.Ended == b.Ended
}

func sameAnswers(a, b [][]api.Answer) bool { return slices.EqualFunc(a, b, slices.Equal) }

func handsOf(t api.Trace) string {
	s := ""
	for _, x := range t.Steps {
		s += string(rune('0' + x.Hand))
	}
	return s
}

func adds(n int) []api.Job { return slices.Repeat([]api.Job{{Kind: api.Add, H: 1}}, n) }

func vals(answers []api.Answer) []uint64 {
	var out []uint64
	for _, a := range answers {
		out = append(out, a.Val)
	}
	return out
}

func TestP3_1_Examples(t *testing.T) {
	three := [][]api.Job{adds(3), adds(3)}
	x, a, e := turn.Acts([]uint64{0}, three, []int{0, 0, 0}, 100)
	if e != api.OK || handsOf(x) != "000111" || !x.Ended || !slices.Equal(x.Words, []uint64{6}) || len(a) != 2 || !slices.Equal(vals(a[0]), []uint64{0, 1, 2}) || !slices.Equal(vals(a[1]), []uint64{3, 4, 5}) {
		t.Error(x, a, e)
	}
	if x, _, e := turn.Acts([]uint64{0}, three, []int{1, -1, 2}, 100); e != api.OK || handsOf(x) != "110100" || !x.Ended {
		t.Error(x, e)
	}
	x, a, e = turn.Acts([]uint64{0}, three, nil, 2)
	if e != api.OK || handsOf(x) != "01" || x.Ended || !slices.Equal(x.Words, []uint64{2}) || !sameAnswers(a, [][]api.Answer{{{OK: true}}, {{OK: true, Val: 1}}}) {
		t.Error(x, a, e)
	}
	if turn.Next([]bool{true, false, true}, 3) != 2 || turn.Next([]bool{false, false}, 0) != -1 {
		t.Error("Next")
	}
	if x, a, e := turn.Acts([]uint64{0}, [][]api.Job{{{Kind: 6}}}, nil, 9); e != api.ErrKind || len(x.Words) > 0 || len(a) > 0 {
		t.Error(x, a, e)
	}
	x, a, e = turn.Acts([]uint64{4}, [][]api.Job{{{Kind: api.Store, A: 9, H: 5}, {Kind: api.CAS, A: 9, H: 5}}}, nil, 9)
	want := []api.Step{{Act: api.Store, At: 9, OK: true}, {Act: api.CAS, At: 9}}
	if e != api.OK || !slices.Equal(x.Steps, want) || !slices.Equal(x.Words, []uint64{4}) || !sameAnswers(a, [][]api.Answer{{{OK: true}, {}}}) {
		t.Error(x, a, e)
	}
	if turn.Going != 0 || turn.Ended != 1 {
		t.Error("the constants", turn.Going, turn.Ended)
	}
}

func TestP3_1_Next(t *testing.T) {
	picks := ends[:]
	for p := -15; p <= 15; p++ {
		picks = append(picks, p)
	}
	for size := range 8 {
		for bits := range 1 << size {
			going := make([]bool, size, size+1)
			var on []int
			for h := range going {
				if going[h] = bits>>h&1 == 1; going[h] {
					on = append(on, h)
				}
			}
			held := slices.Clone(going[:size+1])
			for _, p := range picks {
				want := -1
				if len(on) > 0 {
					want = on[among(p, len(on))]
				}
				if got := turn.Next(going, p); got != want {
					t.Fatalf("Next(%v, %d): %d, want %d", going, p, got, want)
				}
			}
			if !slices.Equal(going[:size+1], held) {
				t.Fatal("changed", going, held)
			}
		}
	}
	if turn.Next(nil, 5) != -1 || turn.Next([]bool{}, math.MinInt) != -1 {
		t.Error("no hands")
	}
}

// Next has no limit of its own.
func TestP3_1_NextOfMany(t *testing.T) {
	going := make([]bool, 100000)
	for h := 1; h < len(going); h += 3 {
		going[h] = true
	}
	for _, c := range [][2]int{{0, 1}, {1, 4}, {33332, 99997}, {33333, 1}, {-1, 99997}, {-33333, 1}} {
		if got := turn.Next(going, c[0]); got != c[1] {
			t.Error(c, got)
		}
	}
}

func TestP3_1_ActsByModel(t *testing.T) {
	from := source(1)
	for round := range 3000 {
		words := from.words(from.below(4))
		hands := from.acts(from.below(api.MaxHands+1), 6, len(words))
		schedule, most := from.schedule(from.below(30)), from.below(40)
		x, a, e := turn.Acts(words, hands, schedule, most)
		wantX, wantA := model(words, hands, schedule, most)
		if e != api.OK || !sameTrace(x, wantX) || !sameAnswers(a, wantA) {
			t.Fatalf("%d: %v %v %d %d: %v %v %v; want %v %v", round, words, hands, schedule, most, x, a, e, wantX, wantA)
		}
	}
}

func TestP3_1_PlayByModel(t *testing.T) {
	from := source(2)
	for round := range 3000 {
		words := from.words(1 + from.below(3))
		hands := from.jobs(from.below(api.MaxHands+1), 4, len(words))
		schedule, most := from.schedule(from.below(60)), from.below(90)
		x, a, e := turn.Play(words, hands, schedule, most, makeOne)
		wantX, wantA := model(words, hands, schedule, most)
		if e != api.OK || !sameTrace(x, wantX) || !sameAnswers(a, wantA) {
			t.Fatalf("%d: %v %v %d %d: %v %v %v; want %v %v", round, words, hands, schedule, most, x, a, e, wantX, wantA)
		}
	}
}

// What a job of Acts holds, at the ends of its fields; what its kind doesn't use counts for nothing.
func TestP3_1_ActsFields(t *testing.T) {
	for i, c := range []struct {
		job  api.Job
		step api.Step
	}{
		{api.Job{Kind: api.Load, B: 3, C: -1, H: 9}, api.Step{Act: api.Load, Had: 7, Put: 7, OK: true}},
		{api.Job{Kind: api.Store, B: 3, H: 9}, api.Step{Act: api.Store, Had: 7, Put: 9, OK: true}},
		{api.Job{Kind: api.Swap, B: 3, H: 9}, api.Step{Act: api.Swap, Had: 7, Put: 9, OK: true}},
		{api.Job{Kind: api.Add, B: 3, H: math.MaxUint64}, api.Step{Act: api.Add, Had: 7, Put: 6, OK: true}},
		{api.Job{Kind: api.CAS, B: 7, C: 5, H: 9}, api.Step{Act: api.CAS, Had: 7, Put: 9, OK: true}},
		{api.Job{Kind: api.CAS, B: 9, H: 7}, api.Step{Act: api.CAS, Had: 7, Put: 7}},
		{api.Job{Kind: api.CAS, A: 1, B: -1, H: 3}, api.Step{Act: api.CAS, At: 1, Had: math.MaxUint64, Put: 3, OK: true}},
		{api.Job{Kind: api.CAS, A: 2, B: math.MinInt, H: 3}, api.Step{Act: api.CAS, At: 2, Had: 1 << 63, Put: 3, OK: true}},
		{api.Job{Kind: api.CAS, A: 3, B: math.MaxInt, H: 3}, api.Step{Act: api.CAS, At: 3, Had: math.MaxInt, Put: 3, OK: true}},
		{api.Job{Kind: api.Swap, A: 4, H: 9}, api.Step{Act: api.Swap, At: 4, OK: true}},
		{api.Job{Kind: api.Add, A: -1, H: 9}, api.Step{Act: api.Add, At: -1, OK: true}},
		{api.Job{Kind: api.Load, A: math.MaxInt, H: 9}, api.Step{Act: api.Load, At: math.MaxInt, OK: true}},
		{api.Job{Kind: api.Store, A: math.MinInt, H: 9}, api.Step{Act: api.Store, At: math.MinInt, OK: true}},
		{api.Job{Kind: api.CAS, A: math.MinInt, H: 9}, api.Step{Act: api.CAS, At: math.MinInt}},
	} {
		words := []uint64{7, math.MaxUint64, 1 << 63, math.MaxInt}
		x, a, e := turn.Acts(words, [][]api.Job{{c.job}}, nil, 1)
		if c.step.At >= 0 && c.step.At < len(words) {
			words[c.step.At] = c.step.Put
		}
		told := [][]api.Answer{{{OK: c.step.OK, Val: c.step.Had}}}
		if e != api.OK || !sameTrace(x, api.Trace{Steps: []api.Step{c.step}, Words: words, Ended: true}) || !sameAnswers(a, told) {
			t.Errorf("%d: %v %v %v", i, x, a, e)
		}
	}
}

func TestP3_1_ActsKinds(t *testing.T) {
	for _, kind := range append([]int{0, 6, 7, 77, 1 << 32, 1<<32 + api.Load}, ends[:]...) {
		x, a, e := turn.Acts([]uint64{5}, [][]api.Job{adds(2), {{Kind: api.Load}, {Kind: kind}}}, nil, 9)
		if e != api.ErrKind || x.Steps != nil || x.Words != nil || x.Ended || a != nil {
			t.Error(kind, x, a, e)
		}
	}
}

// No hands, hands without jobs, no steps: the words are told as they are.
func TestP3_1_NothingToDo(t *testing.T) {
	for _, hands := range [][][]api.Job{nil, {}, {nil}, {nil, {}, nil}, make([][]api.Job, api.MaxHands)} {
		for _, most := range []int{0, 5} {
			for _, schedule := range [][]int{nil, {}, {3, -1}} {
				x, a, e := turn.Play([]uint64{4, 5}, hands, schedule, most, makeOne)
				if e != api.OK || len(x.Steps) != 0 || !slices.Equal(x.Words, []uint64{4, 5}) || !x.Ended || !sameAnswers(a, make([][]api.Answer, len(hands))) {
					t.Error(hands, x, a, e)
				}
			}
		}
	}
	x, a, e := turn.Acts([]uint64{4}, [][]api.Job{adds(1), nil}, []int{0}, 0)
	if e != api.OK || len(x.Steps) != 0 || !slices.Equal(x.Words, []uint64{4}) || x.Ended || !sameAnswers(a, make([][]api.Answer, 2)) {
		t.Error("no step", x, a, e)
	}
	x, a, e = turn.Acts(nil, [][]api.Job{adds(1)}, nil, 1)
	if e != api.OK || len(x.Words) != 0 || !x.Ended || !slices.Equal(x.Steps, []api.Step{{Act: api.Add, OK: true}}) || !sameAnswers(a, [][]api.Answer{{{OK: true}}}) {
		t.Error("no words", x, a, e)
	}
}

func TestP3_1_HandsWithoutJobs(t *testing.T) {
	hands := [][]api.Job{nil, adds(2), {}, adds(3), nil}
	for _, c := range []struct {
		schedule []int
		want     string
	}{{nil, "13133"}, {[]int{1}, "31313"}, {[]int{0, 0}, "11333"}, {[]int{-1, -1, -1, -1, -1}, "33311"}, {[]int{math.MinInt, math.MaxInt, 9, 9}, "13331"}} {
		if x, a, e := turn.Acts([]uint64{0}, hands, c.schedule, 100); e != api.OK || handsOf(x) != c.want || !x.Ended || len(a) != 5 || len(a[1]) != 2 || len(a[3]) != 3 {
			t.Error(c, handsOf(x), a, e)
		}
	}
}

// Behind the schedule's end: the turns go on from the hand picked last, also if that one has ended.
func TestP3_1_Turns(t *testing.T) {
	hands := [][]api.Job{adds(3), adds(1), adds(3), adds(2)}
	for _, c := range []struct {
		schedule []int
		want     string
	}{{nil, "012302302"}, {[]int{1}, "123023020"}, {[]int{1, 0, 0}, "100230232"}, {[]int{2, 3, 3}, "233012020"}, {[]int{3}, "301230202"}} {
		if x, _, e := turn.Acts([]uint64{0}, hands, c.schedule, 100); e != api.OK || handsOf(x) != c.want || !x.Ended {
			t.Error(c, handsOf(x), e)
		}
	}
}

// most in the middle of a task: that task's answer is neither told nor asked for.
func TestP3_1_MostInTheMiddle(t *testing.T) {
	jobs := []api.Job{{Kind: repeat, C: 3, H: 2}, {Kind: repeat, C: 2, H: 5}}
	for most := range 8 {
		var k keeper
		x, a, e := turn.Play([]uint64{0}, [][]api.Job{jobs}, nil, most, k.make)
		done := 0
		if most >= 3 {
			done++
		}
		if most >= 5 {
			done++
		}
		if e != api.OK || len(x.Steps) != min(most, 5) || x.Ended != (most >= 5) || len(a) != 1 || len(a[0]) != done {
			t.Error(most, x, a, e)
		}
		for i, one := range k.tasks[0] {
			if i < done && one.asked != 1 || i >= done && one.asked != 0 {
				t.Errorf("most %d: task %d was asked %d times", most, i, one.asked)
			}
		}
	}
}

// The maker is called for each job, in order, ahead of all steps; each answer is asked once, right behind the last step.
func TestP3_1_MakerAndTasks(t *testing.T) {
	hands := [][]api.Job{
		{{Kind: repeat, A: 1, B: -5, C: 2, H: math.MaxUint64}, {Kind: repeat, A: math.MinInt, B: math.MaxInt, C: 1}},
		nil,
		{{Kind: move, A: 1, C: -7, H: 4}},
	}
	var log []string
	got := make([][]api.Job, len(hands))
	_, _, e := turn.Play([]uint64{1, 2}, hands, nil, 9, func(hand int, j api.Job) (turn.Task, api.Errno) {
		got[hand] = append(got[hand], j)
		log = append(log, "make")
		return &task{hand: hand, job: j, log: &log}, api.OK
	})
	want := []string{"make", "make", "make", "step", "step", "step", "answer", "step", "step", "answer", "step", "answer"}
	if e != api.OK || !slices.Equal(log, want) || !slices.EqualFunc(got, hands, slices.Equal) {
		t.Error(log, got, e)
	}
}

// A task is whatever has the two methods: a pointer, also one that shows nothing, a plain value, a function.
type (
	swapper  uint64
	asker    func(m *cells.Mem) (api.Step, int)
	constant struct{}
)

func (s swapper) Step(m *cells.Mem) (api.Step, int) {
	return m.Do(1, api.Swap, 0, 0, uint64(s)), turn.Ended
}
func (s swapper) Answer() api.Answer              { return api.Answer{Val: uint64(s)} }
func (a asker) Step(m *cells.Mem) (api.Step, int) { return a(m) }
func (a asker) Answer() api.Answer                { return api.Answer{OK: true, Val: 40} }
func (c *constant) Step(*cells.Mem) (api.Step, int) {
	return api.Step{Hand: -3, At: 6, OK: true}, turn.Ended
}
func (c *constant) Answer() api.Answer { return api.Answer{OK: c == nil} }

func TestP3_1_TasksOfManyTypes(t *testing.T) {
	tasks := []turn.Task{swapper(8), asker(func(m *cells.Mem) (api.Step, int) { return m.Do(2, api.Load, 0, 0, 0), turn.Ended }), (*constant)(nil)}
	maker := func(_ int, j api.Job) (turn.Task, api.Errno) { return tasks[j.A], api.OK }
	hands := [][]api.Job{{{A: 0}, {A: 1}, {A: 2}}}
	x, a, e := turn.Play([]uint64{3}, hands, nil, 9, maker)
	steps := []api.Step{{Hand: 1, Act: api.Swap, Had: 3, Put: 8, OK: true}, {Hand: 2, Act: api.Load, Had: 8, Put: 8, OK: true}, {Hand: -3, At: 6, OK: true}}
	told := [][]api.Answer{{{Val: 8}, {OK: true, Val: 40}, {OK: true}}}
	if e != api.OK || !sameTrace(x, api.Trace{Steps: steps, Words: []uint64{8}, Ended: true}) || !sameAnswers(a, told) {
		t.Error(x, a, e)
	}
	if w, a, e := turn.Free([]uint64{3}, hands, maker); e != api.OK || !slices.Equal(w, []uint64{8}) || !sameAnswers(a, told) {
		t.Error(w, a, e)
	}
}

func TestP3_1_LeavesItsArguments(t *testing.T) {
	words := []uint64{1, 2, 3}
	schedule := []int{1, 0, -1, 7, 9}
	jobs := []api.Job{{Kind: api.Add, H: 5}, {Kind: api.Store, A: 1, H: 6}, {Kind: api.Load, A: 2}}
	hands := [][]api.Job{jobs[:2], jobs[:1], {{Kind: -1}}}
	heldWords, heldSchedule, heldJobs := slices.Clone(words), slices.Clone(schedule), slices.Clone(jobs)
	x, a, e := turn.Acts(words[:2], hands[:2], schedule[:2], 9)
	w, b, e2 := turn.Free(words[:2], hands[:2], makeOne)
	if e != api.OK || e2 != api.OK || !slices.Equal(x.Words, []uint64{11, 6}) || !slices.Equal(w, []uint64{11, 6}) {
		t.Error(x, a, e, w, b, e2)
	}
	for _, list := range [][]uint64{x.Words, w} {
		list[0] = 77
		_ = append(list, 78)
	}
	for _, told := range [][][]api.Answer{a, b} {
		held := slices.Clone(told[1])
		told[0][0] = api.Answer{Val: 99}
		_ = append(told[0], api.Answer{Val: 98}, api.Answer{Val: 97})
		if !slices.Equal(told[1], held) {
			t.Error("the hands' answers share memory", told, held)
		}
	}
	if !slices.Equal(words, heldWords) || !slices.Equal(schedule, heldSchedule) || !slices.Equal(jobs, heldJobs) {
		t.Error(words, schedule, jobs)
	}
	if y, c, _ := turn.Acts(words[:2], hands[:2], schedule[:2], 9); y.Words[0] != 11 || c[0][0].Val == 99 {
		t.Error("something was kept", y, c)
	}
}
