package belt_test

import (
	"math"
	"slices"
	"testing"

	"midden/api"
	"midden/belt"
	"midden/trial"
)

// holdSteps: Layer.HoldSteps with as many places as the words are for.
func holdSteps(t *testing.T, words []uint64, hands [][]api.Job, schedule []int, steps []api.Step, answers [][]api.Answer, after []uint64) {
	t.Helper()
	belts.HoldSteps(t, room(roomOf(words)), words, hands, schedule, steps, answers, after)
}

func TestP7_1_Examples(t *testing.T) {
	x, a, e := belt.Play(room(1), fresh(t, 1), [][]api.Job{{give(7), give(8), fetch, give(8), fetch, fetch}}, nil, 1000)
	want := []api.Answer{trial.Told(0), {}, trial.Told(7), trial.Told(1), trial.Told(8), {}}
	if e != api.OK || !slices.Equal(a[0], want) || !slices.Equal(x.Words, []uint64{2, 2, 4, 8}) || len(x.Steps) != 4*5+2*2 || !x.Ended {
		t.Errorf("alone: %v %v %v", x, a, e)
	}
	holdSteps(t, []uint64{0, 0, 0, 2, 0, 0}, [][]api.Job{{give(7)}, {give(8)}}, []int{0, 0, 1, 1, 0, 1, 1, 1, 1, 1, 1, 0, 0},
		[]api.Step{
			trial.Load(0, tail, 0), trial.Load(0, 2, 0), trial.Load(1, tail, 0), trial.Load(1, 2, 0),
			trial.CAS(0, tail, 0, 1), trial.Lost(1, tail, 1),
			trial.Load(1, tail, 1), trial.Load(1, 3, 2), trial.CAS(1, tail, 1, 2), trial.Store(1, 5, 0, 8), trial.Store(1, 3, 2, 3),
			trial.Store(0, 4, 0, 7), trial.Store(0, 2, 0, 1),
		},
		[][]api.Answer{{trial.Told(0)}, {trial.Told(1)}}, []uint64{2, 0, 1, 3, 7, 8})
	if belt.Give != 1 || belt.Fetch != 2 {
		t.Error("the kinds", belt.Give, belt.Fetch)
	}
}

// The steps of each kind, with every field, at turns from both ends of their numbers on.
func TestP7_1_StepsOfEachKind(t *testing.T) {
	for _, p := range turns {
		for _, n := range []int{1, 2, 3, 5, api.MaxRoom} {
			free := make([]uint64, 2+2*n)
			free[tail], free[head], free[mark(n, p)], free[value(n, p)] = p, 77, 2*p, 10
			full := slices.Clone(free)
			full[tail], full[mark(n, p)], full[value(n, p)] = p+1, 2*p+1, 5
			holdSteps(t, free, [][]api.Job{{give(5)}}, nil, []api.Step{
				trial.Load(0, tail, p), trial.Load(0, mark(n, p), 2*p), trial.CAS(0, tail, p, p+1),
				trial.Store(0, value(n, p), 10, 5), trial.Store(0, mark(n, p), 2*p, 2*p+1),
			}, [][]api.Answer{{trial.Told(p)}}, full)
			full[tail], full[head] = 77, p
			left := slices.Clone(full)
			left[head], left[mark(n, p)] = p+1, 2*(p+uint64(n))
			holdSteps(t, full, [][]api.Job{{fetch}}, nil, []api.Step{
				trial.Load(0, head, p), trial.Load(0, mark(n, p), 2*p+1), trial.CAS(0, head, p, p+1),
				trial.Load(0, value(n, p), 5), trial.Store(0, mark(n, p), 2*p+1, 2*(p+uint64(n))),
			}, [][]api.Answer{{trial.Told(5)}}, left)
		}
	}
}

// A full belt, and an empty one: two steps, and nothing has changed.
func TestP7_1_FullAndEmpty(t *testing.T) {
	full := []uint64{2, 0, 1, 3, 7, 8}
	holdSteps(t, full, [][]api.Job{{give(9)}}, nil, []api.Step{trial.Load(0, tail, 2), trial.Load(0, 2, 1)}, [][]api.Answer{{{}}}, full)
	empty := []uint64{3, 3, 8, 6, 7, 8}
	holdSteps(t, empty, [][]api.Job{{fetch}}, nil, []api.Step{trial.Load(0, head, 3), trial.Load(0, 3, 6)}, [][]api.Answer{{{}}}, empty)
	for n := 1; n <= api.MaxRoom; n++ {
		jobs := slices.Concat([]api.Job{fetch}, slices.Repeat([]api.Job{give(4)}, n+1), slices.Repeat([]api.Job{fetch}, n+1))
		x, a := belts.HoldRun(t, room(n), fresh(t, n), [][]api.Job{jobs}, nil, 1000)
		var refused []int
		for i, told := range a[0] {
			if !told.OK {
				refused = append(refused, i)
			}
		}
		if !x.Ended || !slices.Equal(refused, []int{0, n + 1, 2*n + 2}) {
			t.Error(n, refused)
		}
	}
}

func TestP7_1_ValuesAtBothEnds(t *testing.T) {
	for _, v := range []uint64{0, 1, 1<<32 - 1, 1 << 32, 1 << 63, math.MaxUint64} {
		x, a := belts.HoldRun(t, room(1), []uint64{0, 0, 0, ^v}, [][]api.Job{{give(v), fetch, fetch}}, nil, 100)
		if !slices.Equal(a[0], []api.Answer{trial.Told(0), trial.Told(v), {}}) || x.Words[value(1, 0)] != v {
			t.Error(v, x, a)
		}
	}
}

// Marks that are behind what the turn asks for, up to just 2^63 away, end the job; those ahead send it back.
func TestP7_1_MarksBehindAndAhead(t *testing.T) {
	for _, p := range turns {
		for _, gap := range gaps[1:] {
			for _, n := range []int{1, 3, 4} {
				for _, j := range []api.Job{give(5), fetch} {
					count, asked := tail, 2*p
					if j.Kind == belt.Fetch {
						count, asked = head, 2*p+1
					}
					words := make([]uint64, 2+2*n)
					words[count], words[mark(n, p)] = p, asked+gap
					steps := []api.Step{trial.Load(0, count, p), trial.Load(0, mark(n, p), asked+gap)}
					x, a := belts.HoldRun(t, room(n), words, [][]api.Job{{j}}, nil, 7)
					if gap >= 1<<63 {
						if !x.Ended || !slices.Equal(x.Steps, steps) || !slices.Equal(a[0], []api.Answer{{}}) {
							t.Error("behind", p, gap, n, j, x, a)
						}
					} else if x.Ended || len(a[0]) != 0 || !slices.Equal(x.Steps, slices.Repeat(steps, 4)[:7]) {
						t.Error("ahead", p, gap, n, j, x, a)
					}
					if !slices.Equal(x.Words, words) {
						t.Error(p, gap, n, j, x)
					}
				}
			}
		}
	}
}

// A room that doesn't divide 2^64: behind the last turn's place comes turn 0's, which needn't be the next one.
func TestP7_1_RoomThatDoesNotDivide(t *testing.T) {
	const last = math.MaxUint64
	for _, n := range []int{3, 5, 6, 7, 63} {
		words := begun(n, 0)
		words[tail], words[head] = last, last
		words[mark(n, last)] = math.MaxUint64 - 1
		x, a := belts.HoldRun(t, room(n), words, [][]api.Job{{give(5), fetch}}, nil, 100)
		if !slices.Equal(a[0], []api.Answer{trial.Told(last), trial.Told(5)}) || x.Words[tail] != 0 || x.Words[head] != 0 {
			t.Error("around", n, x, a)
		}
		if x.Words[mark(n, last)] != 2*uint64(n)-2 || x.Words[value(n, last)] != 5 {
			t.Error("the mark behind it", n, x)
		}
	}
	// 2^64 - 1 and 0 both belong to place 0 of 3.
	words := []uint64{last, last, math.MaxUint64 - 1, 2, 4, 0, 0, 0}
	x, a := belts.HoldRun(t, room(3), words, [][]api.Job{{give(5), give(6)}}, nil, 100)
	if !slices.Equal(a[0], []api.Answer{trial.Told(last), {}}) || x.Words[2] != last {
		t.Error("a give behind it", x, a)
	}
	x, a = belts.HoldRun(t, room(3), words, [][]api.Job{{give(5), fetch, give(6)}}, nil, 100)
	if len(a[0]) != 2 || x.Ended || x.Words[2] != 4 {
		t.Error("a mark that is ahead for good", x, a)
	}
}

// A CAS that isn't done, again and again: hand 1 does a whole job of the same kind between hand 0's load and its CAS.
func TestP7_1_CASNotDone(t *testing.T) {
	for _, times := range []uint64{0, 1, 2, 5, 30} {
		for _, j := range []api.Job{give(5), fetch} {
			count, words, want := tail, fresh(t, api.MaxRoom), trial.Told(times)
			if j.Kind == belt.Fetch {
				jobs := [][]api.Job{nil}
				for i := range uint64(api.MaxRoom) {
					jobs[0] = append(jobs[0], give(100+i))
				}
				x, _, _ := belt.Play(room(api.MaxRoom), words, jobs, nil, 1000)
				count, words, want = head, x.Words, trial.Told(100+times)
			}
			var schedule []int
			for range times {
				schedule = append(schedule, 0, 0, 1, 1, 1, 1, 1, 0)
			}
			x, a := belts.HoldRun(t, room(api.MaxRoom), words, [][]api.Job{{j}, slices.Repeat([]api.Job{j}, int(times))}, schedule, 1000)
			if !x.Ended || trial.CountLost(x, 0, count) != int(times) || len(x.Steps) != 5+8*int(times) || a[0][0] != want {
				t.Error(j, times, x, a)
			}
		}
	}
}

// A turn that is somebody's already when its mark is loaded, again and again: back to the count, without a CAS.
func TestP7_1_TurnsPassedBy(t *testing.T) {
	for _, times := range []uint64{1, 2, 5, 30} {
		for _, n := range []int{1, 2, 3, api.MaxRoom} {
			var through []api.Job
			var schedule []int
			for i := range times {
				through = append(through, give(100+i), fetch)
				schedule = append(schedule, 0, 1, 1, 1, 1, 1, 1, 1, 1, 1, 1, 0)
			}
			x, a := belts.HoldRun(t, room(n), fresh(t, n), [][]api.Job{{give(5)}, through}, schedule, 1000)
			if !x.Ended || trial.CountLost(x, 0, tail) != 0 || len(x.Steps) != 5+12*int(times) || a[0][0] != trial.Told(times) {
				t.Error("a give", n, times, x, a)
			}
			words := begun(n, 0)
			words[tail], words[2], words[2+n] = 1, 1, 9
			through = nil
			for i := range times {
				through = append(through, fetch, give(100+i))
			}
			x, a = belts.HoldRun(t, room(n), words, [][]api.Job{{fetch}, through}, schedule, 1000)
			if !x.Ended || trial.CountLost(x, 0, head) != 0 || len(x.Steps) != 5+12*int(times) || a[0][0] != trial.Told(100+times-1) {
				t.Error("a fetch", n, times, x, a)
			}
		}
	}
}

func TestP7_1_SizeAndFresh(t *testing.T) {
	belts.HoldFresh(t, api.MaxRoom, func(n int) []uint64 {
		want := []uint64{0, 0}
		for i := range n {
			want = append(want, uint64(2*i))
		}
		return append(want, make([]uint64, n)...)
	})
}

// ErrShape, then ErrKind; the hand is any number.
func TestP7_1_TaskErrors(t *testing.T) {
	belts.HoldTaskErrors(t, api.MaxRoom, belt.Fetch, func(_, kind int) api.Errno {
		if kind != belt.Give && kind != belt.Fetch {
			return api.ErrKind
		}
		return api.OK
	})
}

// A task alone, of hands of whatever number, on memories by hand: shorter than the belt's, longer, and none at all.
func TestP7_1_TaskAlone(t *testing.T) {
	from := trial.Source(1)
	for _, hand := range append([]int{0, 3, api.MaxHands - 1, api.MaxHands}, trial.Ends()...) {
		for _, j := range []api.Job{give(9), fetch} {
			belts.HoldTask(t, room(2), hand, j, nil, 30)
			belts.HoldTask(t, room(1), hand, j, []uint64{0, 0, 1, 6}, 30)
			for range 100 {
				words := append(anyWords(&from, 3), anyWords(&from, 3)...)
				belts.HoldTask(t, room(3), hand, j, words[:from.Below(len(words)+1)], 30)
			}
		}
	}
}

func TestP7_1_AnyWordsByModel(t *testing.T) {
	from := trial.Source(2)
	ended := 0
	for range 6000 {
		n := 1 + from.Below(5)
		hands := anyJobs(&from, from.Below(api.MaxHands+1), 5)
		if x, _ := belts.HoldRun(t, room(n), anyWords(&from, n), hands, from.Schedule(from.Below(80)), from.Below(160)); x.Ended {
			ended++
		}
	}
	if ended < 500 {
		t.Error("too few runs have ended:", ended)
	}
}

// by tells the jobs of these kinds (0: Give), each Give with another value.
func by(kinds []int, first uint64) []api.Job {
	var out []api.Job
	for i, k := range kinds {
		if k == 1 {
			out = append(out, fetch)
		} else {
			out = append(out, give(first+uint64(i)))
		}
	}
	return out
}

// Give and Fetch in every order by one hand, against a list.
func TestP7_1_EveryOrder(t *testing.T) {
	for n := 1; n <= 3; n++ {
		for kinds := range trial.Lists(2, 8) {
			jobs := by(kinds, 10)
			var stand, want []api.Answer
			gives := uint64(0)
			for _, j := range jobs {
				switch {
				case j.Kind == belt.Give && len(stand) < n:
					stand, want = append(stand, trial.Told(j.H)), append(want, trial.Told(gives))
					gives++
				case j.Kind == belt.Fetch && len(stand) > 0:
					want, stand = append(want, stand[0]), stand[1:]
				default:
					want = append(want, api.Answer{})
				}
			}
			_, a, e := belt.Play(room(n), fresh(t, n), [][]api.Job{jobs}, nil, 100)
			if e != api.OK || !slices.Equal(a[0], want) {
				t.Fatal(n, jobs, a, e, want)
			}
			holdWhole(t, n, [][]api.Job{jobs}, nil)
		}
	}
}

// most in the middle of a task: what it has done so far stands in the words, and no answer is told.
func TestP7_1_MostInTheMiddle(t *testing.T) {
	hands := [][]api.Job{nil, {give(5), fetch}, {}}
	words := []uint64{0, 0, 0, 9}
	for most, want := range [][]uint64{
		{0, 0, 0, 9}, {0, 0, 0, 9}, {0, 0, 0, 9}, {1, 0, 0, 9}, {1, 0, 0, 5}, {1, 0, 1, 5},
		{1, 0, 1, 5}, {1, 0, 1, 5}, {1, 1, 1, 5}, {1, 1, 1, 5}, {1, 1, 2, 5}, {1, 1, 2, 5},
	} {
		told := []api.Answer{trial.Told(0), trial.Told(5)}[:min(2, most/5)]
		x, a := belts.HoldRun(t, room(1), words, hands, []int{4}, most)
		if len(x.Steps) != min(most, 10) || x.Ended != (most >= 10) || !slices.Equal(x.Words, want) || !trial.SameAnswers(a, [][]api.Answer{nil, told, nil}) {
			t.Error(most, x, a)
		}
	}
	from := trial.Source(3)
	for most := range 120 {
		belts.HoldRun(t, room(2), fresh(t, 2), [][]api.Job{{give(1), fetch, give(2)}, {fetch, give(3)}, nil, {give(4), fetch}}, from.Schedule(40), most)
	}
}

// Schedules that are empty, shorter than the run, just as long, and longer.
func TestP7_1_Schedules(t *testing.T) {
	hands := [][]api.Job{{give(1), fetch, give(2)}, nil, {fetch, give(3)}, {give(4), fetch}}
	from := trial.Source(4)
	long := from.Schedule(120)
	for n := range len(long) {
		holdWhole(t, 2, hands, long[:n])
	}
}

// At the limits: the greatest room, 8 hands with 256 jobs each, a schedule and most of 65536.
func TestP7_1_AtTheLimits(t *testing.T) {
	from := trial.Source(5)
	hands := make([][]api.Job, api.MaxHands)
	for h := range hands {
		for range api.MaxJobs {
			hands[h] = append(hands[h], api.Job{Kind: belt.Give + from.Below(2), H: from.Value()})
		}
	}
	holdWhole(t, api.MaxRoom, hands, from.Schedule(api.MaxSteps))
	holdFree(t, api.MaxRoom, hands)
}

// The last place of the greatest room is given to, and fetched from; behind it comes the first one again.
func TestP7_1_GreatestRoom(t *testing.T) {
	jobs := append(slices.Repeat([]api.Job{give(3)}, api.MaxRoom-1), give(4), give(5))
	jobs = append(append(jobs, slices.Repeat([]api.Job{fetch}, api.MaxRoom)...), give(6))
	x, a := belts.HoldRun(t, room(api.MaxRoom), fresh(t, api.MaxRoom), [][]api.Job{jobs}, nil, api.MaxSteps)
	last := 2*api.MaxRoom + 1
	if a[0][api.MaxRoom-1] != trial.Told(api.MaxRoom-1) || a[0][api.MaxRoom].OK || a[0][2*api.MaxRoom] != trial.Told(4) || x.Words[last] != 4 {
		t.Error(x.Words, a)
	}
	if a[0][2*api.MaxRoom+1] != trial.Told(api.MaxRoom) || x.Words[2+api.MaxRoom] != 6 || x.Words[2] != 2*api.MaxRoom+1 {
		t.Error(x.Words, a)
	}
}
