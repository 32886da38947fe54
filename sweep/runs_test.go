package sweep_test

import (
	"slices"
	"testing"

	"midden/api"
	"midden/mark"
	"midden/room"
	"midden/sweep"
	"midden/trial"
	"midden/turn"
	"midden/view"
)

// isReady: what P21.2 asks for: the free list is whole, and holds no object in use.
func isReady(sh api.Shape, words []uint64) bool {
	list, isWhole := trial.ListIn(sh, words, api.Free)
	return isWhole && !slices.ContainsFunc(list, func(number int) bool { return isUsed(headIn(sh, words, number)) })
}

// readyWords: such words, with anything in whatever is not looked at; what is out of use need not be on the list.
func readyWords(from *trial.Source, sh api.Shape) []uint64 {
	words := anyWords(from, sh)
	var list []int
	for number := 1; number <= sh.Objects; number++ {
		at := trial.HeadAt(sh, number)
		if from.Below(4) == 0 {
			words[at] &^= 1
		}
		if !isUsed(words[at]) && from.Below(3) > 0 {
			list = slices.Insert(list, from.Below(len(list)+1), number)
		}
	}
	return trial.Lay(sh, words, api.Free, list)
}

// whiteIn: the objects that are in use with another colour, by rising number.
func whiteIn(sh api.Shape, words []uint64, colour int) []int {
	var out []int
	for number := 1; number <= sh.Objects; number++ {
		if head := headIn(sh, words, number); isUsed(head) && colourOf(head) != colour {
			out = append(out, number)
		}
	}
	return out
}

// holdGiven: P21.2, of the words behind a Pass, and of what it has told: given back is what was white. It tells how many these are.
func holdGiven(t *testing.T, sh api.Shape, words []uint64, colour int, after []uint64, answer api.Answer) int {
	t.Helper()
	white := whiteIn(sh, words, colour)
	list, _ := trial.ListIn(sh, words, api.Free)
	for _, number := range white {
		gen := trial.Upper(headIn(sh, words, number))
		if gen < last {
			gen++
			list = slices.Insert(list, 0, number)
		}
		if is := headIn(sh, after, number); is != gen*half {
			t.Fatalf("object %d of %x: its head is %x", number, words, is)
		}
		for slot := range sh.Slots {
			if is := after[trial.SlotAt(sh, number, slot)]; is != 0 {
				t.Fatalf("object %d of %x: its slot %d is %x", number, words, slot, is)
			}
		}
	}
	if is, isWhole := trial.ListIn(sh, after, api.Free); !isWhole || !slices.Equal(is, list) {
		t.Fatalf("the list behind %x is %v; want %v", words, is, list)
	}
	if n := uint64(len(white)); after[api.Freed] != words[api.Freed]+n || answer != told(n) {
		t.Fatalf("%x: %d were given back, but Freed is %x, and told was %v", words, n, after[api.Freed], answer)
	}
	return len(white)
}

// holdOthers: P21.3, of the words behind a Pass; and no word but Free and Freed has changed beside the objects'. It tells how many
// have grown older, and how many are as old as can be.
func holdOthers(t *testing.T, sh api.Shape, words []uint64, colour int, after []uint64) (grown, old int) {
	t.Helper()
	white := whiteIn(sh, words, colour)
	want := slices.Clone(words)
	want[api.Free], want[api.Freed] = after[api.Free], after[api.Freed]
	for number := 1; number <= sh.Objects; number++ {
		at := trial.HeadAt(sh, number)
		switch head := words[at]; {
		case slices.Contains(white, number):
			copy(want[at:at+3+sh.Slots], after[at:])
			want[at+2] = words[at+2]
		case isUsed(head) && ageOf(head) == 255:
			old++
		case isUsed(head):
			want[at] = head + 256
			grown++
		}
	}
	if !slices.Equal(after, want) {
		t.Fatalf("behind %x: %x; want %x", words, after, want)
	}
	return grown, old
}

// count is how much comes of runs with one Pass.
type count struct{ given, grown, old, out int }

// holdAlone: P21.2 and P21.3, by that hand.
func (c *count) holdAlone(t *testing.T, sh api.Shape, words []uint64, colour, hand int) []uint64 {
	t.Helper()
	if !isReady(sh, words) {
		t.Fatalf("no such words: %+v %x", sh, words)
	}
	hands := make([][]api.Job, hand+1)
	hands[hand] = []api.Job{pass(colour)}
	x, a := run(t, sh, words, hands, nil)
	given := holdGiven(t, sh, words, colour, x.Words, a[hand][0])
	grown, old := holdOthers(t, sh, words, colour, x.Words)
	c.given += given
	c.grown += grown
	c.old += old
	c.out += sh.Objects - given - grown - old
	return x.Words
}

func (c count) least() int { return min(c.given, c.grown, c.old, c.out) }

// All heaps of two objects with a slot, of which the heads and the list are whatever they can be.
func TestP21_2_And_21_3_EachSmallHeap(t *testing.T) {
	sh := api.Shape{Objects: 2, Slots: 1, Hands: 1, Roots: 1, Weaks: 1} // the heads are the words 11 and 15
	lowers := []uint64{0, 2, 0xff0e, 1, 3, 0xfe0d, 0xff01, 0xff0f, 0xfffffeff}
	var heads []uint64
	for _, lower := range lowers {
		for _, gen := range []uint64{0, last - 1, last} {
			heads = append(heads, lower+gen*half)
		}
	}
	ready := 0
	var c count
	for _, list := range [][]int{nil, {1}, {2}, {1, 2}, {2, 1}} {
		for pick := range trial.Lists(len(heads), 2) {
			words := trial.Lay(sh, memory(sh, tagged(0, last), cell{heads[pick[0]], half + 2}, cell{heads[pick[1]], half + 1}), api.Free, list)
			if !isReady(sh, words) {
				continue
			}
			ready++
			for colour := range 2 {
				c.holdAlone(t, sh, words, colour, pick[0]%api.MaxHands)
			}
		}
	}
	if ready < 1000 || c.least() < 300 {
		t.Error(ready, c)
	}
}

// Any such words, of any shape.
func TestP21_2_And_21_3_AnyWords(t *testing.T) {
	from := trial.Source(31)
	var c count
	for range 8000 {
		sh := from.Shape()
		c.holdAlone(t, sh, readyWords(&from, sh), from.Below(2), from.Below(api.MaxHands))
	}
	if c.least() < 2000 {
		t.Errorf("something comes too seldom: %+v", c)
	}
}

// What is given back stands on the list with the highest number first, ahead of what stood there; all of the greatest heap.
func TestP21_2_HighestFirst(t *testing.T) {
	sh := api.Shape{Objects: api.MaxObjects, Slots: api.MaxSlots, Hands: 7, Roots: 8, Weaks: 16}
	words := memory(sh, 0)
	for number := 1; number <= sh.Objects; number++ {
		words[trial.HeadAt(sh, number)] = 3
	}
	words[trial.HeadAt(sh, 9)], words[trial.HeadAt(sh, 40)] = 0, 0
	words = trial.Lay(sh, words, api.Free, []int{9, 40})
	var c count
	after := c.holdAlone(t, sh, words, 0, 7)
	var want []int
	for number := 64; number > 0; number-- {
		if number != 9 && number != 40 {
			want = append(want, number)
		}
	}
	if list, _ := trial.ListIn(sh, after, api.Free); !slices.Equal(list, append(want, 9, 40)) || after[api.Freed] != 1005+62 {
		t.Error(list, after[api.Freed])
	}
}

// Freed goes around its end.
func TestP21_2_FreedAtItsEnd(t *testing.T) {
	for _, freed := range []uint64{0, 1<<64 - 2, 1<<64 - 1} {
		words := with(memory(bare, 0, cell{1, 7}, cell{half + 1, 8}), api.Freed, freed)
		var c count
		if after := c.holdAlone(t, bare, words, 1, 0); after[api.Freed] != freed+2 || c.given != 2 {
			t.Error(freed, after, c)
		}
	}
}

// Objects that grow from age to age, cycle by cycle, up to 255; one amid them is out of use all the time.
func TestP21_3_UpTo255(t *testing.T) {
	words := memory(three, tagged(2, 0), cell{3, 7}, cell{0xfe02, 0}, cell{0xffff700f, 9})
	for cycle := 1; cycle <= 300; cycle++ {
		var c count
		words = c.holdAlone(t, three, words, 1, 0)
		if ageOf(words[10]) != uint64(min(cycle, 255)) || ageOf(words[20]) != uint64(min(0x70+cycle, 255)) || words[15] != 0xfe02 || c.given > 0 {
			t.Fatal(cycle, words)
		}
	}
}

// Heaps that runs of the layers below leave, cycle by cycle: what is marked stays, what is dead is given back, and such a heap is
// sound again.
func TestP21_2_And_21_3_BehindTheMarking(t *testing.T) {
	from := trial.Source(32)
	var c count
	sound := 0
	for range 600 {
		sh := from.Shape()
		words := from.Ran(sh)
		for _, colour := range []int{1, 0, 1} {
			isSound := view.Check(sh, words) == api.OK
			v := trial.LookAt(t, sh, words)
			live := trial.Reached(v, trial.Starts(v))
			x, _, e := mark.Play(sh, words, [][]api.Job{{{Kind: mark.Roots, C: colour}, {Kind: mark.Drain, C: colour}}}, nil, api.MaxSteps)
			if e != api.OK || !x.Ended {
				t.Fatal(e, x.Ended)
			}
			if !isReady(sh, x.Words) {
				break // a hand was amid a job when its run was left
			}
			words = c.holdAlone(t, sh, x.Words, colour, from.Below(api.MaxHands))
			for i, isLive := range live {
				if wasUsed := v.Objects[i].Used; isUsed(headIn(sh, words, i+1)) != (wasUsed && isLive) {
					t.Fatalf("object %d of %+v: in use is %x", i+1, v, headIn(sh, words, i+1))
				}
			}
			words[api.Phase] ^= 8 // its colour
			if isSound {
				sound++
				if e := view.Check(sh, words); e != api.OK {
					t.Fatalf("%+v %x: %v", sh, words, e)
				}
			}
		}
	}
	if min(c.given, c.grown, c.out) < 300 || sound < 300 {
		t.Errorf("something comes too seldom: %+v, %d", c, sound)
	}
}

// A Pass while other hands make objects of its colour: none of these is given back, and nothing is lost.
func TestP21_2_WhileOthersMake(t *testing.T) {
	const making, passing = 1, 2
	from := trial.Source(33)
	made, given, again := 0, 0, 0
	for range 3000 {
		sh, colour := from.SmallShape(), from.Below(2)
		words := readyWords(&from, sh)
		hands := slices.Repeat([][]api.Job{slices.Repeat([]api.Job{{Kind: making}}, 3)}, 1+from.Below(3))
		hands = append(hands, []api.Job{{Kind: passing}})
		x, a, e := turn.Play(words, hands, from.Schedule(from.Below(150)), api.MaxSteps, func(hand int, j api.Job) (turn.Task, api.Errno) {
			if j.Kind == passing {
				return sweep.All(sh, hand, colour), api.OK
			}
			return room.Make(sh, hand, false, colour), api.OK
		})
		if e != api.OK || !x.Ended {
			t.Fatal(e, x.Ended)
		}
		free, _ := trial.ListIn(sh, words, api.Free)
		left, isWhole := trial.ListIn(sh, x.Words, api.Free)
		white := whiteIn(sh, words, colour)
		for _, number := range white {
			if trial.Upper(headIn(sh, words, number)) < last {
				free = append(free, number)
			}
		}
		for _, answer := range slices.Concat(a[:len(hands)-1]...) {
			if !answer.OK {
				continue
			}
			number := trial.Number(answer.Val)
			if head := headIn(sh, x.Words, number); !isUsed(head) || trial.Upper(head) != trial.Upper(answer.Val) || colourOf(head) != colour || ageOf(head) > 1 {
				t.Fatalf("%x was made, and its head is %x", answer.Val, head)
			}
			left = append(left, number)
			made++
			if slices.Contains(white, number) {
				again++
			}
		}
		slices.Sort(free)
		slices.Sort(left)
		if !isWhole || !slices.Equal(free, left) || a[len(hands)-1][0] != told(uint64(len(white))) {
			t.Fatalf("%+v %x: %v were free or given back; free or made are %v; %v", sh, words, free, left, a)
		}
		given += len(white)
	}
	if min(made, given) < 2000 || again < 300 {
		t.Error("something comes too seldom:", made, given, again)
	}
}

// A second Pass, and each one behind it, gives nothing back: whatever the words, it only looks at heads and makes objects older.
func TestP21_4_Twice(t *testing.T) {
	from := trial.Source(34)
	given, grown := 0, 0
	for i := range 4000 {
		sh, colour := from.Shape(), from.Below(2)
		words := anyWords(&from, sh)
		if i%2 == 0 {
			words = readyWords(&from, sh)
		}
		x, a := run(t, sh, words, [][]api.Job{nil, {pass(colour)}}, nil)
		y, b := run(t, sh, x.Words, [][]api.Job{nil, {pass(colour), pass(colour)}}, nil)
		z, c := run(t, sh, words, [][]api.Job{nil, {pass(colour), pass(colour), pass(colour)}}, nil)
		if !slices.Equal(b[1], []api.Answer{told(0), told(0)}) || !slices.Equal(c[1], append(a[1], told(0), told(0))) || !slices.Equal(y.Words, z.Words) {
			t.Fatalf("%+v %x: %v %v %v", sh, words, a, b, c)
		}
		kind := kinds(sh)
		for at := range y.Words {
			if kind[at] != aHead && y.Words[at] != x.Words[at] {
				t.Fatalf("word %d of %x has become %x", at, x.Words, y.Words[at])
			}
		}
		for number := 1; number <= sh.Objects; number++ {
			had, is := headIn(sh, x.Words, number), headIn(sh, y.Words, number)
			want := had
			if isUsed(had) {
				want += 256 * min(2, 255-ageOf(had))
			}
			if is != want {
				t.Fatalf("object %d of %x has the head %x", number, x.Words, is)
			}
			if is != had {
				grown++
			}
		}
		given += int(a[1][0].Val)
	}
	if min(given, grown) < 3000 {
		t.Error("something comes too seldom:", given, grown)
	}
}

// holdTogether plays a run of Passes of one colour, by any hands, and holds it to what one hand's promises leave of themselves there:
// each Pass that begins behind the end of another one gives nothing back; what was white is out of use in the end, and each other
// object is as it was, but for its age. It tells of how many Passes that were behind another one, and how many gave the same object
// back.
func holdTogether(t *testing.T, sh api.Shape, words []uint64, colour int, hands [][]api.Job, schedule []int, most int) (behind, twice int) {
	t.Helper()
	jobs, x, a := sweeps.Noted(t, sh, words, hands, schedule, most)
	holdNothingElse(t, sh, words, x)
	firstEnd := len(x.Steps)
	for _, j := range jobs {
		if hasEnded := j.Number < len(a[j.Hand]); hasEnded {
			firstEnd = min(firstEnd, j.End())
		}
	}
	given := 0
	for _, j := range jobs {
		own := holdTold(t, j, a)
		given += own
		if j.Begin() > firstEnd {
			behind++
			if own > 0 {
				t.Fatalf("a Pass behind another one has given %d back: %+v", own, *j)
			}
		}
	}
	if x.Words[api.Freed] != words[api.Freed]+uint64(given) {
		t.Fatalf("Freed has become %x from %x; given back were %d", x.Words[api.Freed], words[api.Freed], given)
	}
	if x.Ended {
		holdEnd(t, sh, words, colour, hands, x.Words)
	}
	return behind, max(0, given-len(whiteIn(sh, words, colour)))
}

// holdTold: a Pass that has ended tells how often it has added to Freed. It tells how often that was.
func holdTold(t *testing.T, j *trial.Noted, a [][]api.Answer) int {
	t.Helper()
	given := 0
	for _, s := range j.Steps {
		if s.At == api.Freed {
			given++
		}
	}
	if hasEnded := j.Number < len(a[j.Hand]); hasEnded && a[j.Hand][j.Number] != told(uint64(given)) {
		t.Fatalf("%+v has told %v", *j, a[j.Hand][j.Number])
	}
	return given
}

// holdEnd: what becomes of each object by all Passes together. Between a Pass's look at an object and its CAS one CAS of that head is
// done, its own or another one.
func holdEnd(t *testing.T, sh api.Shape, words []uint64, colour int, hands [][]api.Job, after []uint64) {
	t.Helper()
	all, most := 0, 0
	for _, jobs := range hands {
		all += len(jobs)
		most = max(most, len(jobs))
	}
	white := whiteIn(sh, words, colour)
	for number := 1; number <= sh.Objects; number++ {
		had, is := headIn(sh, words, number), headIn(sh, after, number)
		switch isWhite, left := slices.Contains(white, number), int(255-ageOf(had)); {
		case isWhite && all > 0:
			times := trial.Upper(is) - trial.Upper(had)
			if is%half != 0 || times > uint64(len(hands)) || times == 0 && trial.Upper(had) < last {
				t.Fatalf("object %d of %x was white, and has the head %x", number, words, is)
			}
		case !isUsed(had) || isWhite:
			if is != had {
				t.Fatalf("object %d of %x has the head %x", number, words, is)
			}
		default:
			grown := int(is-had) / 256
			if (is-had)%256 != 0 || grown < min(left, most) || grown > min(left, all) {
				t.Fatalf("object %d of %x has the head %x by %d Passes, of one hand %d", number, words, is, all, most)
			}
		}
	}
}

// Every order of the steps of some hands.
func TestP21_4_EveryOrder(t *testing.T) {
	one := api.Shape{Objects: 1, Slots: 1, Hands: 1, Roots: 1}
	p := pass(1)
	for _, c := range []struct {
		name  string
		sh    api.Shape
		words []uint64
		hands [][]api.Job
		spots int
	}{
		{"one that has the colour", one, memory(one, 0, cell{3, 7}), [][]api.Job{{p, p}, {p}, {p}}, 50},
		{"one that is white", one, memory(one, 0, cell{1, 7}), [][]api.Job{{p, p}, {p}}, 150},
		{"one of the last generation", one, memory(one, 0, cell{last*half + 1, 7}), [][]api.Job{{p, p}, {p, p}}, 50},
		{"one of each colour", bare, memory(bare, 0, cell{1, 7}, cell{0xfe03, 8}), [][]api.Job{{p, p}, {p}}, 200},
		{"two white ones", bare, memory(bare, 0, cell{1, 7}, cell{1, 8}), [][]api.Job{{p}, {p}}, 500},
	} {
		behind := 0
		spots := everyOrder(t, c.sh, c.words, c.hands, func(schedule []int) {
			n, _ := holdTogether(t, c.sh, c.words, 1, c.hands, schedule, len(schedule))
			behind += n
		})
		if spots < c.spots || behind == 0 {
			t.Error(c.name, spots, behind)
		}
	}
}

// Any hands with Passes of one colour, any words, any schedules; runs that are left in the middle, too.
func TestP21_4_AnySchedule(t *testing.T) {
	from := trial.Source(35)
	behind, twice := 0, 0
	for range 3000 {
		sh, colour := from.SmallShape(), from.Below(2)
		words := anyWords(&from, sh)
		if from.Below(2) == 0 {
			words = readyWords(&from, sh)
		}
		hands := anyJobs(&from, []int{colour}, 1+from.Below(api.MaxHands), 4)
		for _, schedule := range [][]int{from.Schedule(from.Below(300)), from.Streaks(20)} {
			b, w := holdTogether(t, sh, words, colour, hands, schedule, api.MaxSteps)
			behind += b
			twice += w
			holdTogether(t, sh, words, colour, hands, schedule, from.Below(200))
		}
	}
	if min(behind, twice) < 2000 {
		t.Error("something comes too seldom:", behind, twice)
	}
}

// A Pass of the other colour amid two of one colour gives back what has it; and the second one of these finds nothing.
func TestP21_4_OtherColours(t *testing.T) {
	words := memory(three, tagged(0, 3), cell{1, 7}, cell{half + 3, 8}, cell{1, 9})
	x, a := run(t, three, words, [][]api.Job{{pass(1), pass(0), pass(1), pass(0)}}, nil)
	if list, _ := trial.ListIn(three, x.Words, api.Free); !slices.Equal(a[0], []api.Answer{told(2), told(1), told(0), told(0)}) || !slices.Equal(list, []int{2, 3, 1}) {
		t.Error(a, list)
	}
}
