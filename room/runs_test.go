package room_test

import (
	"fmt"
	"iter"
	"slices"
	"testing"

	"midden/api"
	"midden/room"
	"midden/shape"
	"midden/trial"
	"midden/view"
)

// withBacks: the jobs with each number in each Back. Of what a hand makes the schedule decides: so in some of them each order of
// the steps has the Backs that are its hands' own.
func withBacks(sh api.Shape, hands [][]api.Job) iter.Seq[[][]api.Job] {
	backs := 0
	for _, j := range slices.Concat(hands...) {
		if j.Kind == room.Back {
			backs++
		}
	}
	return func(yield func([][]api.Job) bool) {
		for numbers := range trial.Lists(sh.Objects, backs) {
			out := make([][]api.Job, len(hands))
			for h, jobs := range hands {
				out[h] = slices.Clone(jobs)
				for k := range out[h] {
					if out[h][k].Kind == room.Back {
						out[h][k].A = 1 + numbers[0]
						numbers = numbers[1:]
					}
				}
			}
			if !yield(out) {
				return
			}
		}
	}
}

// Every order of the steps of some hands, held to a shelf all the way, and to P17.2 and P17.3 wherever a run ends.
func TestP17_2_EveryOrder(t *testing.T) {
	single := api.Shape{Objects: 1, Hands: 1, Roots: 1}
	for _, c := range []struct {
		name        string
		sh          api.Shape
		hands       [][]api.Job
		least, ends int // spots that are held, and ends among them
	}{
		{"two make", bare, [][]api.Job{{alloc}, {allocOf(1, 1)}}, 50, 2},
		{"two make one", single, [][]api.Job{{alloc}, {alloc}}, 30, 2},
		{"three make two", bare, [][]api.Job{{alloc}, {alloc}, {allocOf(0, 1)}}, 500, 6},
		{"one makes again what it gave back", single, [][]api.Job{{alloc, back(0), alloc}, {alloc}}, 200, 2},
		{"both give back", bare, [][]api.Job{{alloc, back(0)}, {alloc, back(0)}}, 300, 4},
		{"both give one back", single, [][]api.Job{{alloc, back(0)}, {alloc, back(0)}}, 100, 1},
		{"both make and give back, and make again", bare, [][]api.Job{{alloc, back(0), allocOf(1, 0)}, {allocOf(0, 1), back(0)}}, 500, 6},
		{"two make, one of them gives back", bare, [][]api.Job{{alloc, alloc, back(0)}, {alloc}}, 300, 6},
		{"with slots", api.Shape{Objects: 2, Slots: 1, Hands: 1, Roots: 1}, [][]api.Job{{alloc, back(0)}, {alloc, alloc}}, 300, 5},
		{"three hands", bare, [][]api.Job{{alloc, back(0)}, {alloc}, {alloc}}, 2000, 8},
	} {
		held, ends := 0, map[string]int{}
		for hands := range withBacks(c.sh, c.hands) {
			words := fresh(t, c.sh)
			everyOrder(t, c.sh, words, hands, func(schedule []int) {
				x, a, _ := room.Play(c.sh, words, hands, schedule, len(schedule))
				if _, isWrong := misuseIn(c.sh, hands, x, a); isWrong {
					return
				}
				holdOwned(t, c.sh, hands, schedule, len(schedule))
				held++
				if x.Ended {
					ends[fmt.Sprint(a)]++
				}
			})
		}
		if held < c.least || len(ends) < c.ends {
			t.Error(c.name, held, ends)
		}
	}
}

// ownJobs: of both kinds, each Back of what its hand has by then.
func ownJobs(t *testing.T, from *trial.Source, sh api.Shape, schedule []int, hands, most int) [][]api.Job {
	t.Helper()
	return proper(t, from, sh, fresh(t, sh), anyJobs(from, sh, hands, most), schedule)
}

// Any jobs of any schedule, in which each hand gives back what is its own.
func TestP17_2_AnySchedule(t *testing.T) {
	from := trial.Source(31)
	var c count
	again := 0
	for range 2500 {
		sh, schedule := from.SmallShape(), from.Schedule(from.Below(300))
		hands := ownJobs(t, &from, sh, schedule, 1+from.Below(api.MaxHands), 10)
		x, a := holdOwned(t, sh, hands, schedule, api.MaxSteps)
		c.add(sh, hands, x)
		for h, jobs := range hands {
			for k, told := range a[h] {
				if jobs[k].Kind == room.Alloc && trial.Upper(told.Val) > 0 {
					again++
				}
			}
		}
		// A run that is left in the middle.
		x, _ = holdOwned(t, sh, hands, schedule, from.Below(100))
		c.add(sh, hands, x)
	}
	c.past, c.last = max(c.past, 1000), max(c.last, 1000) // from fresh words there is neither
	if c.least() < 1000 || again < 1000 {
		t.Errorf("something comes too seldom: %+v, %d", c, again)
	}
}

// Hands that give back what isn't theirs promise nothing of this kind; but what they do is by the tables.
func TestP17_2_OthersObjects(t *testing.T) {
	x, a := play(t, bare, fresh(t, bare), [][]api.Job{{alloc, back(1), back(1), alloc, alloc}}, nil, 100)
	if !slices.Equal(a[0], []api.Answer{trial.Told(1), trial.Told(1), trial.Told(1), trial.Told(2*half + 1), trial.Told(2*half + 1)}) {
		t.Error("the same handle is told twice, by the table:", x, a)
	}
}

// A Make that ends while the Back of its object is still to be counted: it is behind the Back's CAS all the same.
func TestP17_2_MadeAgainAtOnce(t *testing.T) {
	sh := api.Shape{Objects: 1, Slots: 1, Hands: 1, Roots: 1}
	schedule := slices.Concat(slices.Repeat([]int{0}, 6+6), slices.Repeat([]int{1}, 6))
	hands := [][]api.Job{{alloc, back(1)}, {allocOf(1, 1)}}
	for n := range len(schedule) + 1 {
		x, a := holdOwned(t, sh, hands, schedule, n)
		if n == len(schedule) && (x.Ended || len(a[0]) != 1 || len(a[1]) != 1 || a[1][0] != trial.Told(half+1)) {
			t.Error(n, x, a)
		}
	}
	// One step ahead of that CAS it is refused.
	x, a := holdOwned(t, sh, hands, append(slices.Repeat([]int{0}, 6+5), 1), 100)
	if s := x.Steps[11]; s.Hand != 1 || s.Had != half || a[1][0] != (api.Answer{}) || x.Words[10] != half {
		t.Error("refused ahead of the CAS", x, a)
	}
}

// One object, which goes from hand to hand: its generations come one behind the other.
func TestP17_2_Generations(t *testing.T) {
	from := trial.Source(32)
	sh := api.Shape{Objects: 1, Slots: 2, Hands: 1, Roots: 1}
	most := uint64(0)
	for range 100 {
		schedule := from.Schedule(from.Below(400))
		hands := proper(t, &from, sh, fresh(t, sh), slices.Repeat([][]api.Job{slices.Repeat([]api.Job{alloc, back(1)}, 15)}, 4), schedule)
		x, a := holdOwned(t, sh, hands, schedule, api.MaxSteps)
		gens := uint64(0)
		for i, s := range x.Steps {
			if s.Act == api.Store && s.At == 10 && s.Put%2 == 1 && trial.Upper(s.Put) != gens {
				t.Fatal("made with another generation:", i, s, a)
			}
			if s.Act == api.Store && s.At == 10 && s.Put%2 == 0 {
				gens++
			}
		}
		most = max(most, gens)
	}
	if most < 10 {
		t.Error(most)
	}
}

// The free list holds just what is not in use; each hand gives all back in the end: then all are free again.
func TestP17_3_AllComeBack(t *testing.T) {
	from := trial.Source(33)
	for range 400 {
		sh, schedule := from.SmallShape(), from.Schedule(from.Below(200))
		hands := ownJobs(t, &from, sh, schedule, 1+from.Below(api.MaxHands), 6)
		x, a := holdOwned(t, sh, hands, schedule, api.MaxSteps)
		last := make([][]api.Job, len(hands))
		for h, jobs := range hands {
			has := map[int]bool{}
			for k, told := range a[h] {
				has[trial.Number(told.Val)] = jobs[k].Kind == room.Alloc && told.OK
			}
			for number := 1; number <= sh.Objects; number++ {
				if has[number] {
					last[h] = append(last[h], back(number))
				}
			}
		}
		y, _ := play(t, sh, x.Words, last, from.Schedule(from.Below(100)), api.MaxSteps)
		list, whole := trial.ListIn(sh, y.Words, api.Free)
		if !whole || len(list) != sh.Objects || y.Words[api.Allocated] != y.Words[api.Freed] {
			t.Fatal(sh, hands, list, y)
		}
	}
}

// Seen as a heap it is sound in the end, where all is made of the phase word's colour; and the list as it is seen is the same.
func TestP17_3_AsItIsSeen(t *testing.T) {
	from := trial.Source(34)
	for range 500 {
		sh, schedule := from.Shape(), from.Schedule(60)
		hands := ownJobs(t, &from, sh, schedule, 3, 8)
		for h := range hands {
			for k := range hands[h] {
				hands[h][k].C = 0
			}
		}
		x, _ := holdOwned(t, sh, hands, schedule, api.MaxSteps)
		v := trial.LookAt(t, sh, x.Words)
		if list, _ := trial.ListIn(sh, x.Words, api.Free); !slices.Equal(v.Free, list) || view.Check(sh, x.Words) != api.OK {
			t.Fatal(v, list, view.Check(sh, x.Words))
		}
		for i, o := range v.Objects {
			if o.Used == slices.Contains(v.Free, i+1) || o.Age != 0 || o.Taken || slices.ContainsFunc(o.Slots, func(h uint64) bool { return h != 0 }) {
				t.Fatal(i+1, o, v.Free)
			}
		}
		if behind, e := view.Replay(fresh(t, sh), x.Steps, len(x.Steps)); e != api.OK || !slices.Equal(behind, x.Words) {
			t.Fatal(behind, e)
		}
	}
}

// A Make is refused only if at its load no object stood in the list: each was in use, or taken off and not yet in use or free.
func TestP17_3_RefusedWhenNoneIsLeft(t *testing.T) {
	from := trial.Source(35)
	used, between := 0, 0
	for range 1500 {
		sh, schedule := from.SmallShape(), from.Schedule(from.Below(300))
		hands := ownJobs(t, &from, sh, schedule, 1+from.Below(api.MaxHands), 8)
		x, _ := holdOwned(t, sh, hands, schedule, api.MaxSteps)
		words := fresh(t, sh)
		off := map[int]int{}
		number := make([]int, len(hands))
		for _, s := range x.Steps {
			j := hands[s.Hand][number[s.Hand]]
			isRefused := endsJob(sh, j, s) && s.Act == api.Load
			if isRefused && len(off) != sh.Objects {
				t.Fatalf("refused, but off are only %v: %+v", off, s)
			}
			if isRefused && allUsed(sh, words) {
				used++
			} else if isRefused {
				between++
			}
			if endsJob(sh, j, s) {
				number[s.Hand]++
			}
			words[s.At] = s.Put
			switch isTurned := s.At == api.Free && s.Act == api.CAS && s.OK; {
			case isTurned && j.Kind == room.Alloc:
				off[trial.Number(s.Had)]++
			case isTurned:
				delete(off, j.A)
			}
		}
	}
	if used < 1000 || between < 200 {
		t.Error("too few were refused:", used, between)
	}
}

func allUsed(sh api.Shape, words []uint64) bool {
	for number := 1; number <= sh.Objects; number++ {
		if words[trial.HeadAt(sh, number)]%2 == 0 {
			return false
		}
	}
	return true
}

// Nothing changes but Free, the counters, and heads, links and slots of objects, of each shape, where all words are unlike.
func TestP17_1_NothingElse(t *testing.T) {
	from := trial.Source(36)
	for _, sh := range trial.RightShapes() {
		for range 40 {
			words := memory(sh, tagged(from.Below(sh.Objects+1), tags()[from.Below(len(tags()))]))
			for number := 1; number <= sh.Objects; number++ {
				words[trial.LinkAt(sh, number)] = from.Any()
			}
			x, _ := play(t, sh, words, anyJobs(&from, sh, api.MaxHands, 40), from.Schedule(500), api.MaxSteps)
			for at, w := range words {
				name, _ := shape.Name(sh, at)
				switch isChanged := w != x.Words[at]; {
				case name == "free" || name == "allocated" || name == "freed":
				case name[:4] == "head" || name[:4] == "link":
				case name[:4] == "slot" && x.Words[at] == 0:
				case isChanged:
					t.Fatal(name, w, x.Words[at])
				}
			}
		}
	}
}
