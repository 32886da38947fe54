package turn_test

import (
	"math"
	"slices"
	"testing"

	"midden/api"
	"midden/turn"
)

// refuses fails, if the run by the schedule is not refused with this error, and nothing beside it.
func refuses(t *testing.T, name string, want api.Errno, x api.Trace, a [][]api.Answer, e api.Errno) {
	t.Helper()
	if e != want || x.Steps != nil || x.Words != nil || x.Ended || a != nil {
		t.Errorf("%s: %d steps, %d words, %v, %v, %v; want %v", name, len(x.Steps), len(x.Words), x.Ended, a, e, want)
	}
}

// never makes nothing: the test fails, if it is called.
func never(t *testing.T) turn.Maker {
	return func(hand int, j api.Job) (turn.Task, api.Errno) {
		t.Helper()
		t.Errorf("the maker was called for %d, %v", hand, j)
		return nil, api.ErrKind
	}
}

// What is exactly at a limit is taken, all limits at once: 8 hands with 256 jobs of 32 steps are 65536 steps.
func TestP3_1_AtTheLimits(t *testing.T) {
	words := make([]uint64, api.MaxWords)
	words[api.MaxWords-1] = 7
	job := api.Job{Kind: repeat, A: api.MaxWords - 1, C: api.MaxSteps / api.MaxHands / api.MaxJobs, H: 1}
	hands := slices.Repeat([][]api.Job{slices.Repeat([]api.Job{job}, api.MaxJobs)}, api.MaxHands)
	x, a, e := turn.Play(words, hands, make([]int, api.MaxSteps), api.MaxSteps, makeOne)
	if e != api.OK || len(x.Steps) != api.MaxSteps || len(x.Words) != api.MaxWords || x.Words[api.MaxWords-1] != 7+api.MaxSteps || !x.Ended || len(a) != api.MaxHands {
		t.Error(len(x.Steps), len(x.Words), x.Ended, len(a), e)
	}
	for h := range a {
		if len(a[h]) != api.MaxJobs || x.Steps[h*api.MaxSteps/api.MaxHands].Hand != h {
			t.Error(h, len(a[h]))
		}
	}
	x, _, e = turn.Play(words, hands, nil, api.MaxSteps-1, makeOne)
	if e != api.OK || len(x.Steps) != api.MaxSteps-1 || x.Ended {
		t.Error("one step less", len(x.Steps), x.Ended, e)
	}
	w, a, e := turn.Free(words, hands, makeOne)
	if e != api.OK || len(w) != api.MaxWords || w[api.MaxWords-1] != 7+api.MaxSteps || len(a) != api.MaxHands || len(a[7]) != api.MaxJobs {
		t.Error("free", len(w), len(a), e)
	}
}

// A task that waits for ever: the run stops behind most steps.
func TestP3_1_WaitsForEver(t *testing.T) {
	x, a, e := turn.Play([]uint64{0}, [][]api.Job{{{Kind: await, H: 1}}, {{Kind: await, H: 1}}}, []int{0, 1, 1}, api.MaxSteps, makeOne)
	if e != api.OK || len(x.Steps) != api.MaxSteps || x.Ended || !sameAnswers(a, make([][]api.Answer, 2)) {
		t.Error(len(x.Steps), x.Ended, a, e)
	}
}

func TestP3_1_PastTheLimits(t *testing.T) {
	words, long := make([]uint64, api.MaxWords+1), adds(api.MaxJobs+1)
	bad := [][]api.Job{{{Kind: -1}}}
	for name, c := range map[string]struct {
		words    []uint64
		hands    [][]api.Job
		schedule []int
		most     int
	}{
		"words":         {words, nil, nil, 9},
		"words, ErrArg": {words, bad, nil, -1},
		"hands":         {nil, make([][]api.Job, api.MaxHands+1), nil, 9},
		"hands, ErrArg": {nil, slices.Repeat(bad, api.MaxHands+1), nil, -1},
		"jobs":          {nil, [][]api.Job{long}, nil, 9},
		"the last jobs": {nil, [][]api.Job{bad[0], nil, long}, nil, -1},
		"schedule":      {nil, bad, make([]int, api.MaxSteps+1), -1},
		"most":          {nil, bad, nil, api.MaxSteps + 1},
		"all of int":    {nil, nil, nil, math.MaxInt},
	} {
		x, a, e := turn.Play(c.words, c.hands, c.schedule, c.most, never(t))
		refuses(t, name, api.ErrLong, x, a, e)
		x, a, e = turn.Play(c.words, c.hands, c.schedule, c.most, nil)
		refuses(t, name+" without a maker", api.ErrLong, x, a, e)
		x, a, e = turn.Acts(c.words, c.hands, c.schedule, c.most)
		refuses(t, name+" by Acts", api.ErrLong, x, a, e)
		if c.schedule != nil || c.most > 9 {
			continue
		}
		if w, a, e := turn.Free(c.words, c.hands, never(t)); w != nil || a != nil || e != api.ErrLong {
			t.Error(name, "by Free", len(w), a, e)
		}
	}
}

func TestP3_1_MostBelowNought(t *testing.T) {
	for _, most := range []int{-1, -2, math.MinInt} {
		for _, hands := range [][][]api.Job{nil, {nil}, {{{Kind: -1}}}, {adds(2)}} {
			x, a, e := turn.Play([]uint64{1}, hands, []int{0}, most, never(t))
			refuses(t, "Play", api.ErrArg, x, a, e)
			x, a, e = turn.Play([]uint64{1}, hands, []int{0}, most, nil)
			refuses(t, "Play without a maker", api.ErrArg, x, a, e)
			x, a, e = turn.Acts([]uint64{1}, hands, []int{0}, most)
			refuses(t, "Acts", api.ErrArg, x, a, e)
		}
	}
}

func TestP3_1_NilMaker(t *testing.T) {
	for _, most := range []int{0, 9} {
		for _, hands := range [][][]api.Job{nil, {nil}, {nil, {}}} {
			x, a, e := turn.Play([]uint64{4}, hands, nil, most, nil)
			if e != api.OK || !sameTrace(x, api.Trace{Words: []uint64{4}, Ended: true}) || len(a) != len(hands) {
				t.Error("no job", x, a, e)
			}
			if w, a, e := turn.Free([]uint64{4}, hands, nil); e != api.OK || !slices.Equal(w, []uint64{4}) || len(a) != len(hands) {
				t.Error("no job", w, a, e)
			}
		}
		for _, hands := range [][][]api.Job{{{{}}}, {nil, nil, adds(1)}} {
			x, a, e := turn.Play([]uint64{4}, hands, nil, most, nil)
			refuses(t, "a job", api.ErrKind, x, a, e)
			if w, a, e := turn.Free([]uint64{4}, hands, nil); w != nil || a != nil || e != api.ErrKind {
				t.Error("a job", w, a, e)
			}
		}
	}
}

// The maker's errors come hand by hand and job by job, the first one alone; a nil task with OK counts as ErrKind there.
func TestP3_1_MakersErrors(t *testing.T) {
	const fine, none = 0, 1 << 40
	job := func(errno int) api.Job { return api.Job{Kind: repeat, C: 1, A: errno, H: 1} }
	for i, c := range []struct {
		hands [][]api.Job
		calls int
		want  api.Errno
	}{
		{[][]api.Job{{job(fine), job(int(api.ErrArg)), job(int(api.ErrKind))}}, 2, api.ErrArg},
		{[][]api.Job{{job(fine)}, nil, {job(int(api.ErrKind))}, {job(int(api.ErrArg))}}, 2, api.ErrKind},
		{[][]api.Job{{job(fine), job(fine)}, {job(int(api.ErrArg))}, {job(none)}}, 3, api.ErrArg},
		{[][]api.Job{{job(fine), job(fine)}, {job(none)}, {job(int(api.ErrArg))}}, 3, api.ErrKind},
		{[][]api.Job{{job(none)}}, 1, api.ErrKind},
		{[][]api.Job{{job(int(api.ErrWord))}}, 1, api.ErrWord},
		{[][]api.Job{{job(int(api.ErrLong))}}, 1, api.ErrLong},
		{[][]api.Job{{job(-77)}}, 1, -77},
		{[][]api.Job{{job(math.MaxInt)}}, 1, math.MaxInt},
	} {
		for _, withTask := range []bool{false, true} {
			calls := 0
			maker := func(hand int, j api.Job) (turn.Task, api.Errno) {
				calls++
				if j.A == fine {
					return &task{hand: hand, job: j}, api.OK
				}
				if j.A == none {
					return nil, api.OK
				}
				if withTask { // a task beside an error counts for nothing
					return &task{hand: hand, job: j}, api.Errno(j.A)
				}
				return nil, api.Errno(j.A)
			}
			for _, most := range []int{0, 9} {
				calls = 0
				x, a, e := turn.Play([]uint64{1}, c.hands, nil, most, maker)
				refuses(t, "Play", c.want, x, a, e)
				if calls != c.calls {
					t.Errorf("%d: %d calls of the maker, want %d", i, calls, c.calls)
				}
			}
			calls = 0
			if w, a, e := turn.Free([]uint64{1}, c.hands, maker); w != nil || a != nil || e != c.want || calls != c.calls {
				t.Errorf("%d: Free: %v, %v, %v, %d calls", i, w, a, e, calls)
			}
		}
	}
}

// No step is made where a later job is refused.
func TestP3_1_NothingDoneBesideAnError(t *testing.T) {
	var k keeper
	maker := func(hand int, j api.Job) (turn.Task, api.Errno) {
		if j.Kind == 0 {
			return nil, api.ErrArg
		}
		return k.make(hand, j)
	}
	hands := [][]api.Job{{{Kind: repeat, C: 1}, {Kind: repeat, C: 1}}, {{Kind: repeat, C: 1}, {}}}
	x, a, e := turn.Play([]uint64{1}, hands, nil, 9, maker)
	refuses(t, "Play", api.ErrArg, x, a, e)
	if w, a, e := turn.Free([]uint64{1}, hands, maker); w != nil || a != nil || e != api.ErrArg {
		t.Error(w, a, e)
	}
	for _, tasks := range k.tasks {
		for _, one := range tasks {
			if one.made != 0 || one.asked != 0 {
				t.Error("a task was begun", one)
			}
		}
	}
}
