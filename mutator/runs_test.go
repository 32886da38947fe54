package mutator_test

import (
	"fmt"
	"maps"
	"slices"
	"testing"

	"midden/api"
	"midden/mutator"
	"midden/trial"
)

// holdOwn: P23.2, of steps of these hands' jobs. It tells how many of them were at words of a hand's own.
func holdOwn(t *testing.T, sh api.Shape, steps []api.Step) int {
	t.Helper()
	n := 0
	kind, owner := kinds(sh)
	for i, s := range steps {
		if s.At < 0 {
			continue
		}
		isShut := slices.Contains([]int{api.Phase, api.Freed, api.Queued, api.Cycles}, s.At)
		isOwned := kind[s.At] == anAck || kind[s.At] == aRoot
		if isOwned && owner[s.At] == s.Hand {
			n++
		} else if (isShut || isOwned) && s.Act != api.Load {
			t.Fatalf("%+v: step %d: %+v", sh, i, s)
		}
	}
	return n
}

// Any words, any jobs, any schedules; and with others that turn the phase word amid them.
func TestP23_2_AnyWords(t *testing.T) {
	from := trial.Source(31)
	own := 0
	for range 6000 {
		sh := crowd(&from, from.SmallShape())
		words, hands := anyWords(&from, sh), anyJobs(&from, sh, 6)
		schedule := from.Schedule(100)
		x, _, e := mutator.Play(sh, words, hands, schedule, 500)
		if e != api.OK {
			t.Fatal(e)
		}
		own += holdOwn(t, sh, x.Steps)
		for _, at := range []int{api.Phase, api.Freed, api.Queued, api.Cycles} {
			if x.Words[at] != words[at] {
				t.Fatalf("word %d: %x; was %x", at, x.Words[at], words[at])
			}
		}
		turns := []api.Job{{Kind: another, H: anyMoment(&from)}, {Kind: another, H: anyMoment(&from)}}
		for h := range hands {
			hands[h] = append(hands[h], api.Job{Kind: bye})
		}
		x, _, e = playAmid(sh, words, append(hands, turns), schedule, 500)
		if e != api.OK {
			t.Fatal(e)
		}
		own += holdOwn(t, sh, slices.DeleteFunc(x.Steps, func(s api.Step) bool { return s.Hand == sh.Hands }))
	}
	if own < 100000 {
		t.Error(own)
	}
}

// The words of the hands that have no jobs stay as they are, whatever the other ones do.
func TestP23_2_HandsWithoutJobs(t *testing.T) {
	from := trial.Source(32)
	for range 2000 {
		sh := crowd(&from, from.SmallShape())
		words, hands := anyWords(&from, sh), anyJobs(&from, sh, 6)
		idle := from.Below(sh.Hands)
		hands[idle] = nil
		x, _ := play(t, sh, words, hands, from.Schedule(100), 500)
		ack, first := trial.AckAt(sh, idle), trial.RootAt(sh, idle, 0)
		if x.Words[ack] != words[ack] || !slices.Equal(x.Words[first:first+sh.Roots], words[first:first+sh.Roots]) {
			t.Fatalf("%+v, hand %d: %x; was %x", sh, idle, x.Words, words)
		}
	}
}

// isGood: is there an object in use of that number and generation?
func isGood(sh api.Shape, words []uint64, h uint64) bool {
	at := trial.HeadAt(sh, trial.Number(h))
	return at >= 0 && words[at]%2 == 1 && trial.Upper(words[at]) == trial.Upper(h)
}

// A barred is what P23.3 speaks of, behind the steps of a run so far.
type barred struct {
	sh     api.Shape
	kind   []int
	words  []uint64
	stored map[int]struct{} // roots and slots that jobs have stored something into
	lost   map[int]struct{} // objects whose good handles jobs have overwritten there
	whites int              // of these objects, those that were white when the run began
}

func newBarred(sh api.Shape, words []uint64) *barred {
	kind, _ := kinds(sh)
	return &barred{sh: sh, kind: kind, words: slices.Clone(words), stored: map[int]struct{}{}, lost: map[int]struct{}{}}
}

// hasColour: has the object the colour of the phase word?
func (b *barred) hasColour(number int) bool {
	return b.words[trial.HeadAt(b.sh, number)]/2%2 == b.words[api.Phase]/8%2
}

// follow takes a step, and tells what is wrong behind it; "" is nothing.
func (b *barred) follow(s api.Step) string {
	if s.At < 0 {
		return ""
	}
	if isPlace := b.kind[s.At] == aRoot || b.kind[s.At] == aSlot; isPlace && s.Act == api.Store {
		if isGood(b.sh, b.words, s.Had) {
			b.lost[trial.Number(s.Had)] = struct{}{}
		}
		if s.Put != 0 {
			b.stored[s.At] = struct{}{}
		}
	}
	b.words[s.At] = s.Put
	for at := range maps.Keys(b.stored) {
		if h := b.words[at]; isGood(b.sh, b.words, h) && !b.hasColour(trial.Number(h)) {
			return fmt.Sprintf("%x stands in the word %d, and its object is white", h, at)
		}
	}
	for number := range maps.Keys(b.lost) {
		if !b.hasColour(number) {
			return fmt.Sprintf("object %d was overwritten, and is white", number)
		}
	}
	return ""
}

// shaded: of what was stored or overwritten, how many objects were white in words.
func (b *barred) shaded(words []uint64) int {
	numbers := maps.Clone(b.lost)
	for at := range b.stored {
		if isGood(b.sh, b.words, b.words[at]) {
			numbers[trial.Number(b.words[at])] = struct{}{}
		}
	}
	n := 0
	for number := range numbers {
		if head := words[trial.HeadAt(b.sh, number)]; trial.White(head, trial.Upper(head), int(words[api.Phase]/8)) {
			n++
		}
	}
	return n
}

// holdBarrier: P23.3, behind each step of a run. It tells how many objects were shaded so.
func holdBarrier(t *testing.T, sh api.Shape, words []uint64, x api.Trace) int {
	t.Helper()
	if phase := words[api.Phase] % 8; phase < api.Arm || phase > api.Close {
		t.Fatal("no such phase:", phase)
	}
	b := newBarred(sh, words)
	for i, s := range x.Steps {
		if fault := b.follow(s); fault != "" {
			t.Fatalf("%+v %x: behind step %d, %+v: %s", sh, words, i, s, fault)
		}
	}
	return b.shaded(words)
}

// isBroken: does a run without the barrier break what P23.3 says?
func isBroken(sh api.Shape, words []uint64, hands [][]api.Job, schedule []int) bool {
	idle := with(words, api.Phase, words[api.Phase]&^7)
	x, _, _ := mutator.Play(sh, idle, hands, schedule, 1000)
	b := newBarred(sh, idle)
	return slices.ContainsFunc(x.Steps, func(s api.Step) bool { return b.follow(s) != "" })
}

// Every order of the steps of some hands' jobs, in each phase with the barrier: what they store and overwrite was white, and without the
// barrier would stay so.
func TestP23_3_EveryOrder(t *testing.T) {
	// Hand 0 shows 1 and 2, hand 1 shows 1 and nothing; 1 shows 3, the weak word and the queue show 3; all are white.
	heap := puts(fresh(duo), 1, 0, 3, 3, 10, 1, 11, 2, 12, 1, 14, 3, 15, 5, 18, 3, 19, 1, 23, 0xd)
	roomy := puts(heap, 1, 2, 3, 0, 11, 0, 19, 0, 20, 0)
	for _, c := range []struct {
		name  string
		words []uint64
		hands [][]api.Job
		least int // spots
	}{
		{"a slot is overwritten, and read", heap, [][]api.Job{{putOf(0, 0, 1)}, {getOf(0, 0, 1)}}, 200},
		{"a slot is overwritten by both", heap, [][]api.Job{{putOf(0, 0, 1)}, {putOf(0, 0, 0)}}, 400},
		{"a slot is wiped, and overwritten", heap, [][]api.Job{{putOf(0, 0, -1)}, {putOf(0, 0, 1)}}, 100},
		{"roots are dropped", heap, [][]api.Job{{dropOf(0)}, {dropOf(0)}}, 100},
		{"roots are copied", heap, [][]api.Job{{copyOf(0, 1)}, {copyOf(0, 1)}}, 200},
		{"what is weak is read", heap, [][]api.Job{{seeOf(0, 1)}, {getOf(0, 0, 1)}}, 200},
		{"what is due is taken", heap, [][]api.Job{{takeOf(0)}, {dropOf(0)}}, 200},
		{"an object is made over another one", roomy, [][]api.Job{{newOf(0)}, {newOf(0)}}, 150},
	} {
		for _, phase := range []int{api.Arm, api.Mark, api.Close} {
			if isSee := c.hands[0][0].Kind == api.GetWeak; isSee && phase == api.Close {
				continue // it begins again and again
			}
			words := with(c.words, api.Phase, momentOf(phase, 1, 3))
			ends, shaded, broken := 0, 0, 0
			spots := everyOrder(t, duo, words, c.hands, func(schedule []int) {
				x, _, e := mutator.Play(duo, words, c.hands, schedule, len(schedule))
				if e != api.OK {
					t.Fatal(e)
				}
				shaded += holdBarrier(t, duo, words, x)
				if x.Ended {
					ends++
				}
				if isBroken(duo, words, c.hands, schedule) {
					broken++
				}
			})
			if spots < c.least || ends < 2 || shaded < 20 || broken < 50 {
				t.Error(c.name, phase, spots, ends, shaded, broken)
			}
		}
	}
}

// Any words, any jobs, any schedules; behind which step soever the run stops.
func TestP23_3_AnyWords(t *testing.T) {
	from := trial.Source(33)
	shaded, broken := 0, 0
	for range 8000 {
		sh := crowd(&from, from.SmallShape())
		words, hands := anyWords(&from, sh), anyJobs(&from, sh, 6)
		words[api.Phase] = words[api.Phase]&^7 + uint64(api.Arm+from.Below(3))
		schedule := from.Schedule(from.Below(200))
		if from.Below(2) == 0 {
			schedule = from.Streaks(20)
		}
		x, _, e := mutator.Play(sh, words, hands, schedule, from.Below(800))
		if e != api.OK {
			t.Fatal(e)
		}
		shaded += holdBarrier(t, sh, words, x)
		if isBroken(sh, words, hands, schedule) {
			broken++
		}
	}
	if shaded < 3000 || broken < 2000 {
		t.Error(shaded, broken)
	}
}

// Heaps that hands have made themselves; then a cycle begins: all objects become white in one act.
func TestP23_3_HeapsOfRuns(t *testing.T) {
	from := trial.Source(34)
	shaded, broken := 0, 0
	for range 2000 {
		sh := crowd(&from, from.Shape())
		x, _ := run(t, sh, fresh(sh), anyJobs(&from, sh, 20), from.Schedule(100))
		words, hands := with(x.Words, api.Phase, momentOf(api.Arm+from.Below(3), 1, 1)), anyJobs(&from, sh, 10)
		schedule := from.Schedule(300)
		y, _, e := mutator.Play(sh, words, hands, schedule, 1000)
		if e != api.OK {
			t.Fatal(e)
		}
		shaded += holdBarrier(t, sh, words, y)
		if isBroken(sh, words, hands, schedule) {
			broken++
		}
	}
	if shaded < 800 || broken < 500 {
		t.Error(shaded, broken)
	}
}

// A grown is a heap from its beginning on, by the steps of a run so far.
type grown struct {
	sh    api.Shape
	kind  []int
	words []uint64
	made  int // News between their store to the head and their addition
}

// follow takes a step, and tells what is wrong behind it by P23.4.
func (g *grown) follow(s api.Step) string {
	g.words[s.At] = s.Put
	if g.kind[s.At] == aHead && s.Act == api.Store {
		g.made++
	}
	if s.At == api.Allocated && s.Act == api.Add {
		g.made--
	}
	isUsed := func(number int) bool { return g.words[trial.HeadAt(g.sh, number)]%2 == 1 }
	used := uint64(0)
	for number := 1; number <= g.sh.Objects; number++ {
		if isUsed(number) {
			used++
		}
	}
	if is := g.words[api.Allocated] + uint64(g.made); is != used {
		return fmt.Sprintf("%d are in use; want %d", used, is)
	}
	for at, kind := range g.kind {
		if kind != aRoot && kind != aWeak && kind != aSlot {
			continue
		}
		if kind == aSlot && !isUsed(1+(at-trial.HeadAt(g.sh, 1))/(3+g.sh.Slots)) {
			continue
		}
		if h := g.words[at]; h != 0 && !isGood(g.sh, g.words, h) {
			return fmt.Sprintf("%x stands in the word %d", h, at)
		}
	}
	return ""
}

// holdGood: P23.4, behind each step of a run from fresh words. It tells behind how many steps a New had not been counted yet.
func holdGood(t *testing.T, sh api.Shape, x api.Trace) int {
	t.Helper()
	kind, _ := kinds(sh)
	g := &grown{sh: sh, kind: kind, words: fresh(sh)}
	n := 0
	for i, s := range x.Steps {
		if fault := g.follow(s); fault != "" {
			t.Fatalf("%+v: behind step %d, %+v: %s", sh, i, s, fault)
		}
		if g.made > 0 {
			n++
		}
	}
	return n
}

// Every order of the steps of some hands' jobs.
func TestP23_4_EveryOrder(t *testing.T) {
	sh := api.Shape{Objects: 2, Slots: 1, Hands: 2, Roots: 1, Weaks: 1}
	for _, c := range []struct {
		name  string
		hands [][]api.Job
		least int // spots
	}{
		{"News", [][]api.Job{{newOf(0)}, {finalOf(0)}}, 100},
		{"News, one after the other", [][]api.Job{{newOf(0), newOf(0)}, {newOf(0)}}, 250},
		{"slots", [][]api.Job{{newOf(0), putOf(0, 0, 0)}, {newOf(0), getOf(0, 0, 0)}}, 300},
		{"weak words", [][]api.Job{{newOf(0), showOf(0, 0), dropOf(0)}, {seeOf(0, 0), putOf(0, 0, 0)}}, 100},
		{"nothing to see", [][]api.Job{{dropOf(0), takeOf(0)}, {getOf(0, 0, 0), seeOf(0, 0), poll}}, 30},
	} {
		made := 0
		spots := everyOrder(t, sh, fresh(sh), c.hands, func(schedule []int) {
			x, _, e := mutator.Play(sh, fresh(sh), c.hands, schedule, len(schedule))
			if e != api.OK {
				t.Fatal(e)
			}
			made += holdGood(t, sh, x)
		})
		if isMade := c.hands[0][0].Kind == api.New; spots < c.least || isMade != (made > 0) {
			t.Error(c.name, spots, made)
		}
	}
}

// Any jobs, any schedules, any shapes; behind which step soever the run stops.
func TestP23_4_AnyRuns(t *testing.T) {
	from := trial.Source(35)
	made, full := 0, 0
	for range 4000 {
		sh := crowd(&from, from.Shape())
		hands := anyJobs(&from, sh, 20)
		schedule := from.Schedule(from.Below(300))
		if from.Below(2) == 0 {
			schedule = from.Streaks(30)
		}
		x, _, e := mutator.Play(sh, fresh(sh), hands, schedule, from.Below(1500))
		if e != api.OK {
			t.Fatal(e)
		}
		made += holdGood(t, sh, x)
		if x.Words[api.Allocated] == uint64(sh.Objects) {
			full++
		}
	}
	if made < 4000 || full < 500 {
		t.Error(made, full)
	}
}

// holdAlone: P23.5, by that hand. It tells how many answers showed an object.
func holdAlone(t *testing.T, sh api.Shape, hand int, jobs []api.Job) int {
	t.Helper()
	hands := make([][]api.Job, hand+1)
	hands[hand] = jobs
	x, a := run(t, sh, fresh(sh), hands, nil)
	nodes, roots, want := trial.Alone(sh, jobs)
	if !slices.Equal(a[hand], want) {
		t.Fatalf("%+v %+v: %v; want %v", sh, jobs, a[hand], want)
	}
	is := slices.Clone(x.Words)
	for i, slots := range nodes {
		if head := x.Words[trial.HeadAt(sh, i+1)]; head&^4 != 1 {
			t.Fatalf("%+v %+v: the head of %d is %x", sh, jobs, i+1, head)
		}
		for slot, shown := range slots {
			is[trial.SlotAt(sh, i+1, slot)] = uint64(shown + 1)
		}
	}
	for root, shown := range roots {
		is[trial.RootAt(sh, hand, root)] = uint64(shown + 1)
	}
	if !slices.Equal(is, x.Words) {
		t.Fatalf("%+v %+v: %x; want %x", sh, jobs, x.Words, is)
	}
	return len(slices.DeleteFunc(want, func(a api.Answer) bool { return a.Val == 0 }))
}

// isAloneJob: what a hand does that the model knows.
func isAloneJob(j api.Job) bool {
	return j.Kind != api.MakeWeak && j.Kind != api.GetWeak && j.Kind != api.Take
}

func news(jobs []api.Job) int {
	return len(slices.DeleteFunc(slices.Clone(jobs), func(j api.Job) bool { return j.Kind != api.New }))
}

// All lists of three jobs, behind none, one and two News.
func TestP23_5_EachSmallList(t *testing.T) {
	all := []api.Job{
		newOf(0), finalOf(1), getOf(0, 0, 0), getOf(0, 0, 1), getOf(1, 0, 0), getOf(1, 0, 1), putOf(0, 0, -1), putOf(0, 0, 0), putOf(0, 0, 1),
		putOf(1, 0, -1), putOf(1, 0, 0), putOf(1, 0, 1), copyOf(0, 0), copyOf(0, 1), copyOf(1, 0), copyOf(1, 1), dropOf(0), dropOf(1), poll,
	}
	lists, shown := 0, 0
	for _, ahead := range [][]api.Job{nil, {newOf(0)}, {newOf(0), newOf(1)}, {newOf(0), newOf(1), putOf(0, 0, 1)}} {
		for pick := range trial.Lists(len(all), 3) {
			jobs := append(slices.Clone(ahead), all[pick[0]], all[pick[1]], all[pick[2]])
			if news(jobs) > small.Objects {
				continue
			}
			lists++
			shown += holdAlone(t, small, 0, jobs)
		}
	}
	if lists < 20000 || shown < 30000 {
		t.Error(lists, shown)
	}
}

// Any jobs, by any hand of any shape; as many News as there are objects.
func TestP23_5_AnyJobs(t *testing.T) {
	from := trial.Source(36)
	shown, most := 0, 0
	for range 4000 {
		sh := from.Shape()
		var jobs []api.Job
		for range from.Below(60) {
			if j := anyJob(&from, sh); isAloneJob(j) && (j.Kind != api.New || news(jobs) < sh.Objects) {
				jobs = append(jobs, j)
			}
		}
		shown += holdAlone(t, sh, from.Below(sh.Hands), jobs)
		if news(jobs) == sh.Objects {
			most++
		}
	}
	if shown < 12000 || most < 500 {
		t.Error(shown, most)
	}
}

// The longest list, on the greatest shape.
func TestP23_5_LongList(t *testing.T) {
	from := trial.Source(37)
	sh := api.Shape{Objects: api.MaxObjects, Slots: api.MaxSlots, Hands: api.MaxHands - 1, Roots: api.MaxRoots, Weaks: api.MaxWeaks}
	for hand := range sh.Hands {
		var jobs []api.Job
		for len(jobs) < api.MaxJobs {
			j := anyJob(&from, sh)
			if news(jobs) < sh.Objects && from.Below(2) == 0 {
				j = newOf(from.Below(sh.Roots))
			}
			if isAloneJob(j) && (j.Kind != api.New || news(jobs) < sh.Objects) {
				jobs = append(jobs, j)
			}
		}
		if shown := holdAlone(t, sh, hand, jobs); shown < 65 || news(jobs) != sh.Objects {
			t.Error(hand, shown, news(jobs))
		}
	}
}

// Hands that share the free list alone, and of which no New is refused, make no difference to one another: each tells what the model
// tells, but for which object stands for which node.
func TestP23_5_BesideOthers(t *testing.T) {
	from := trial.Source(38)
	for range 2000 {
		sh := api.Shape{Objects: 24, Slots: 1 + from.Below(3), Hands: 3, Roots: 1 + from.Below(3)}
		hands := make([][]api.Job, sh.Hands)
		for h := range hands {
			for range 30 {
				if j := anyJob(&from, sh); isAloneJob(j) && (j.Kind != api.New || news(hands[h]) < 8) {
					hands[h] = append(hands[h], j)
				}
			}
		}
		_, a := run(t, sh, fresh(sh), hands, from.Schedule(400))
		for h, jobs := range hands {
			_, _, want := trial.Alone(sh, jobs)
			as := map[uint64]uint64{0: 0}
			for i, j := range jobs {
				if j.Kind == api.New {
					as[want[i].Val] = a[h][i].Val
				}
				if a[h][i].OK != want[i].OK || a[h][i].Val != as[want[i].Val] {
					t.Fatalf("%+v, hand %d: %v; want %v", sh, h, a[h], want)
				}
			}
		}
	}
}
