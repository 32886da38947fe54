package graph_test

import (
	"iter"
	"slices"
	"testing"

	"midden/api"
	"midden/graph"
	"midden/trial"
)

// isClosed: has the set (object i + 1 is in it, if bit i is set) the objects of all good handles in from, and of each of its
// objects all that it shows?
func isClosed(v api.View, from []uint64, set int) bool {
	has := func(handles []uint64) bool {
		for i, isShown := range trial.ShownBy(v, handles) {
			if isShown && set>>i&1 == 0 {
				return false
			}
		}
		return true
	}
	for i, o := range v.Objects {
		if set>>i&1 == 1 && !has(o.Slots) {
			return false
		}
	}
	return has(from)
}

// holdClosed fails, if what Reach tells isn't closed, or tells an object outside of any set that is.
func holdClosed(t *testing.T, v api.View, from []uint64) {
	t.Helper()
	got, told := graph.Reach(v, from), 0
	if len(got) != len(v.Objects) {
		t.Fatalf("%+v from %x: %v", v, from, got)
	}
	for i, is := range got {
		if is {
			told |= 1 << i
		}
	}
	if !isClosed(v, from, told) {
		t.Fatalf("%+v from %x: %v isn't closed", v, from, got)
	}
	for set := range 1 << len(v.Objects) {
		if told&^set != 0 && isClosed(v, from, set) {
			t.Fatalf("%+v from %x: %v; but the set %b is closed", v, from, got, set)
		}
	}
}

// isWay: the first number by a root, each other one shown by the one ahead of it.
func isWay(v api.View, numbers []int) bool {
	may := trial.ShownBy(v, trial.Starts(v))
	for _, number := range numbers {
		if !may[number-1] {
			return false
		}
		may = trial.ShownBy(v, v.Objects[number-1].Slots)
	}
	return true
}

// holdWay fails, if Way isn't the first way there is, when all lists of numbers that end at an object are gone through: the
// shorter ones ahead, and those of one length in the order of the first place where they differ.
func holdWay(t *testing.T, v api.View, to int) {
	t.Helper()
	got := graph.Way(v, to)
	n := len(v.Objects)
	for length := range n {
		for list := range trial.Lists(n, length) {
			slices.Reverse(list) // Lists turns the first number fastest
			for i := range list {
				list[i]++
			}
			if list = append(list, to); !isWay(v, list) {
				continue
			}
			if !slices.Equal(got, list) {
				t.Fatalf("%+v to %d: %v; want %v", v, to, got, list)
			}
			return
		}
	}
	if len(got) > 0 {
		t.Fatalf("%+v to %d: %v; but there is no way", v, to, got)
	}
}

// holdLaws fails, if what the promises say of all calls together doesn't hold.
func holdLaws(t *testing.T, v api.View) {
	t.Helper()
	live, dead, held := graph.Live(v), graph.Dead(v), graph.Held(v)
	if !slices.IsSorted(dead) || len(slices.Compact(slices.Clone(dead))) != len(dead) {
		t.Fatalf("%+v: Dead isn't rising: %v", v, dead)
	}
	for i, o := range v.Objects {
		isDead := slices.Contains(dead, i+1)
		if o.Used && live[i] == isDead || !o.Used && (live[i] || isDead) {
			t.Fatalf("%+v: object %d: live %v, dead %v", v, i+1, live[i], isDead)
		}
		if held[i] && !o.Used || isDead && o.Final && !o.Taken && o.Gen < half && !held[i] {
			t.Fatalf("%+v: object %d: dead %v, held %v", v, i+1, isDead, held[i])
		}
		way := graph.Way(v, i+1)
		if len(way) > 0 != live[i] || len(way) > 0 && way[len(way)-1] != i+1 {
			t.Fatalf("%+v: object %d: live %v, way %v", v, i+1, live[i], way)
		}
		for k, number := range way {
			if number < 1 || number > len(live) || !live[number-1] || slices.Contains(way[:k], number) {
				t.Fatalf("%+v: object %d: way %v, live %v", v, i+1, way, live)
			}
		}
	}
	for _, number := range dead {
		if number < 1 || number > len(v.Objects) {
			t.Fatalf("%+v: Dead: %v", v, dead)
		}
	}
}

// smallViews: three objects with two slots each, which show each of the objects or none, and a root that does; in turn some
// are out of use, Final, Taken, in the queue.
func smallViews() iter.Seq[api.View] {
	return func(yield func(api.View) bool) {
		turn := 0
		for list := range trial.Lists(4, 7) {
			v := rooted([]uint64{uint64(list[6])})
			for i := range 3 {
				o := object(uint64(list[2*i]), uint64(list[2*i+1]))
				o.Used, o.Final, o.Taken = (turn+i)%4 > 0, (turn/7+i)%3 > 0, (turn/11+i)%2 > 0
				v.Objects = append(v.Objects, o)
			}
			if turn%5 == 0 {
				v.Queue = []int{turn/5%4 + 1}
			}
			if turn++; !yield(v) {
				return
			}
		}
	}
}

func TestP14_2_Closed(t *testing.T) {
	for v := range smallViews() {
		holdClosed(t, v, v.Roots[0])
		holdClosed(t, v, []uint64{1, 3})
	}
	from := trial.Source(11)
	for range 8000 {
		v := from.View(6)
		for n := range 4 {
			handles := make([]uint64, n)
			for i := range handles {
				handles[i] = from.Handle(v.Objects)
			}
			holdClosed(t, v, handles)
		}
		holdClosed(t, v, trial.Starts(v))
	}
}

func TestP14_1_EverySmallView(t *testing.T) {
	for v := range smallViews() {
		holdView(t, v)
		for to := 1; to <= 3; to++ {
			holdWay(t, v, to)
		}
		holdLaws(t, v)
	}
}

// Ways in views of five objects that show one another at random: they are short and long, and there are several.
func TestP14_1_WaysByAllLists(t *testing.T) {
	from := trial.Source(12)
	lengths := map[int]int{}
	for range 2500 {
		v := rooted(nil)
		for range 5 {
			slots := make([]uint64, from.Below(4))
			for i := range slots {
				slots[i] = uint64(from.Below(7))
			}
			v.Objects = append(v.Objects, object(slots...))
		}
		v.Roots = [][]uint64{{uint64(from.Below(6))}, {uint64(from.Below(10))}}
		if from.Below(4) == 0 {
			v.Queue = []int{from.Below(7)}
		}
		for to := 1; to <= 5; to++ {
			holdWay(t, v, to)
			lengths[len(graph.Way(v, to))]++
		}
		holdView(t, v)
	}
	for length := range 5 {
		if lengths[length] < 100 {
			t.Errorf("ways of %d numbers: %d", length, lengths[length])
		}
	}
}

// Reach of two lists, one behind the other, is what either reaches.
func TestP14_3_TwoLists(t *testing.T) {
	from := trial.Source(13)
	for range 20000 {
		v := from.View(8)
		lists := make([][]uint64, 2)
		for i := range lists {
			for range from.Below(4) {
				lists[i] = append(lists[i], from.Handle(v.Objects))
			}
		}
		one, two := graph.Reach(v, lists[0]), graph.Reach(v, lists[1])
		for _, both := range [][]uint64{slices.Concat(lists[0], lists[1]), slices.Concat(lists[1], lists[0])} {
			got := graph.Reach(v, both)
			for i := range v.Objects {
				if got[i] != (one[i] || two[i]) {
					t.Fatalf("%+v from %x and %x: %v; want what %v and %v tell", v, lists[0], lists[1], got, one, two)
				}
			}
		}
	}
}

// Each law comes to something: there are views enough with live, dead and held objects of all kinds.
func TestP14_3_4_Laws(t *testing.T) {
	from := trial.Source(14)
	live, dead, held, great, ways := 0, 0, 0, 0, 0
	for range 30000 {
		v := from.View(8)
		holdLaws(t, v)
		for i, o := range v.Objects {
			if graph.Live(v)[i] {
				live++
			}
			if slices.Contains(graph.Dead(v), i+1) {
				dead++
				if o.Final && !o.Taken && o.Gen >= half && !graph.Held(v)[i] {
					great++
				}
			}
			if graph.Held(v)[i] {
				held++
			}
			if len(graph.Way(v, i+1)) > 2 {
				ways++
			}
		}
	}
	if min(live, dead, held, great, ways) < 1000 {
		t.Errorf("live %d, dead %d, held %d, of a generation that no handle has %d, ways of more than two %d", live, dead, held, great, ways)
	}
}
