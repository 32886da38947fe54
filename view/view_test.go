package view_test

import (
	"math"
	"reflect"
	"slices"
	"testing"

	"midden/api"
	"midden/cells"
	"midden/shape"
	"midden/trial"
	"midden/turn"
	"midden/view"
)

// holdLook fails, if Look doesn't tell what the words show, or if there is no way back from it.
func holdLook(t *testing.T, sh api.Shape, words []uint64) api.View {
	t.Helper()
	v, e := view.Look(sh, words)
	if want := seen(sh, words); e != api.OK || !trial.SameView(v, want) {
		t.Fatalf("Look of %+v %x: %+v, %d; want %+v", sh, words, v, e, want)
	}
	holdLay(t, sh, v)
	return v
}

// holdLay fails, if Lay doesn't tell the words of the view, or refuse it; and if Look of the words isn't the view. It tells
// whether the view was taken.
func holdLay(t *testing.T, sh api.Shape, v api.View) bool {
	t.Helper()
	words, e := view.Lay(sh, v)
	want, ok := laid(sh, v)
	if !ok {
		if e != api.ErrSound || len(words) != 0 {
			t.Fatalf("Lay of %+v %+v: %x, %d; want ErrSound", sh, v, words, e)
		}
		return false
	}
	if e != api.OK || !slices.Equal(words, want) {
		t.Fatalf("Lay of %+v %+v: %x, %d; want %x", sh, v, words, e, want)
	}
	if back, e := view.Look(sh, words); e != api.OK || !trial.SameView(back, v) {
		t.Fatalf("Look of what %+v is laid: %+v, %d", v, back, e)
	}
	return true
}

func freshOf(t *testing.T, sh api.Shape) []uint64 {
	t.Helper()
	words, e := shape.Fresh(sh)
	if e != api.OK {
		t.Fatal(e)
	}
	return words
}

// Two objects with a slot each, one hand with two roots, one weak word: the roots are 9 and 10, the weak word 11, the
// objects begin at 12 and 16.
var two = api.Shape{Objects: 2, Slots: 1, Hands: 1, Roots: 2, Weaks: 1}

func TestP13_1_Examples(t *testing.T) {
	v := holdLook(t, two, freshOf(t, two))
	if v.Phase != 0 || !slices.Equal(v.Free, []int{1, 2}) || len(v.Grey)+len(v.Queue) > 0 {
		t.Errorf("%+v", v)
	}
	for _, o := range v.Objects {
		if o.Used || !o.Live {
			t.Errorf("%+v", o)
		}
	}
	if e := view.Check(two, freshOf(t, two)); e != api.OK {
		t.Error(e)
	}
	nine := freshOf(t, two)
	nine[9] = 9
	if v := holdLook(t, two, nine); v.Roots[0][0] != 9 || view.Check(two, nine) != api.ErrSound {
		t.Errorf("9 in a root: %+v, %d", v, view.Check(two, nine))
	}
	ring := freshOf(t, two)
	ring[17] = 1
	if v := holdLook(t, two, ring); !slices.Equal(v.Free, []int{1, 2}) || view.Check(two, ring) != api.ErrSound {
		t.Errorf("a ring: %+v, %d", v, view.Check(two, ring))
	}
	v.Free = []int{2, 1}
	if words, e := view.Lay(two, v); e != api.ErrSound || len(words) > 0 {
		t.Errorf("Free 2 1: %v, %d", words, e)
	}
	step := []api.Step{{At: 0, Had: 5, Put: 6}}
	if words, e := view.Replay([]uint64{5}, step, 1); e != api.OK || !slices.Equal(words, []uint64{6}) {
		t.Errorf("Had 5: %v, %d", words, e)
	}
	step[0].Had = 4
	if words, e := view.Replay([]uint64{5}, step, 1); e != api.ErrSound || len(words) > 0 {
		t.Errorf("Had 4: %v, %d", words, e)
	}
}

// Each word by itself, in a memory whose words are all different.
func TestP13_1_LookShowsEachWordAtItsPlace(t *testing.T) {
	sh := api.Shape{Objects: 2, Slots: 2, Hands: 2, Roots: 2, Weaks: 2}
	words := make([]uint64, 8+2+4+2+10)
	for at := range words {
		words[at] = 1000 + uint64(at)
	}
	words[0], words[1], words[2], words[3] = 0xabcdef0123456<<8|0xfb, 7*half+2, 2, 1
	words[16], words[17] = 0x89abcdef<<32|0xabcd0070|0x12<<8|0xd, 9*half+3
	words[21], words[22], words[18] = 0x2, half+1, 2
	want := api.View{
		Phase: 3, Colour: 1, Round: 0xabcdef0123456,
		Acks: []uint64{1008, 1009}, Roots: [][]uint64{{1010, 1011}, {1012, 1013}}, Weaks: []uint64{1014, 1015},
		Objects: []api.Object{
			{Used: true, Final: true, Taken: true, Age: 0x12, Gen: 0x89abcdef, Link: 9*half + 3, Next: 2, Slots: []uint64{1019, 1020}},
			{Live: true, Link: half + 1, Next: 1023, Slots: []uint64{1024, 1025}},
		},
		Free: []int{2, 1}, Grey: []int{2, 1}, Queue: []int{1, 2},
		Counts: [4]uint64{1004, 1005, 1006, 1007},
	}
	if got, e := view.Look(sh, words); e != api.OK || !reflect.DeepEqual(got, want) {
		t.Errorf("%+v, %d; want %+v", got, e, want)
	}
	holdLook(t, sh, words)
}

// In every phase, also one that is none, with both colours and rounds at both ends: what the phase word shows comes back.
func TestP13_2_EveryPhaseWord(t *testing.T) {
	for phase := range 8 {
		for colour := range 2 {
			for _, round := range []uint64{0, 1, 1<<56 - 2, 1<<56 - 1} {
				for _, litter := range []uint64{0, 0x50, 0xf0} {
					words := freshOf(t, two)
					words[0] = round<<8 | litter | uint64(colour)<<3 | uint64(phase)
					v := holdLook(t, two, words)
					if v.Phase != phase || v.Colour != colour || v.Round != round || v.Objects[0].Live != (colour == 0) {
						t.Errorf("%x: %+v", words[0], v)
					}
				}
			}
		}
	}
}

// Every head of the foot's bits, with ages and generations at both ends, and with bits that aren't looked at.
func TestP13_2_EveryHead(t *testing.T) {
	for foot := range uint64(16) {
		for _, rest := range []uint64{0, 0x100, 0xff00, 1 << 32, (half - 1) * half, 0xf0, 0xffff0000, math.MaxUint64 &^ 15, 0x5555555555555550} {
			for colour := range uint64(2) {
				words := freshOf(t, two)
				words[0], words[12], words[16] = 8*colour, foot|rest, math.MaxUint64
				holdLook(t, two, words)
			}
		}
	}
}

// All lists of three objects: each head and each link shows an object, none, or the number behind the last one; so all
// that are empty, whole, in a ring, with a tail to a ring, that end past the objects, and any two that share objects.
func TestP13_1_EveryList(t *testing.T) {
	from := newSource(5)
	sh := api.Shape{Objects: 3, Hands: 1, Roots: 1}
	for list := range trial.Lists(5, 5) {
		words := from.Words(sh)
		for i, at := range []int{1, 2, 11, 14, 17} {
			words[at] = uint64(list[i]) + half*uint64(from.Below(2))*uint64(from.Below(half))
		}
		holdLook(t, sh, words)
		holdCheck(t, sh, words)
	}
	for list := range trial.Lists(5, 4) {
		words := from.Words(sh)
		for i, at := range []int{3, 12, 15, 18} {
			words[at] = uint64(list[i]) + half*uint64(from.Below(2))*uint64(from.Below(half))
		}
		holdLook(t, sh, words)
		holdCheck(t, sh, words)
	}
}

// Heads whose lower half is 0, Objects, Objects + 1 and the greatest number, with the tags 0 and the greatest; and the lists
// that lead there.
func TestP13_1_EndsOfLists(t *testing.T) {
	for _, sh := range trial.RightShapes() {
		n := uint64(sh.Objects)
		for _, tag := range []uint64{0, 1, half - 1} {
			for _, low := range []uint64{0, 1, n, n + 1, n + 2, half/2 - 1, half / 2, half - 1} {
				for at := 1; at <= 3; at++ {
					words := freshOf(t, sh)
					words[at] = tag*half + low
					v := holdLook(t, sh, words)
					list := [][]int{nil, v.Free, v.Grey, v.Queue}[at]
					if isObject := low >= 1 && low <= n; isObject != (len(list) > 0) || isObject && list[0] != int(low) {
						t.Errorf("%+v, word %d is %x: %v", sh, at, words[at], list)
					}
					holdCheck(t, sh, words)
					words = freshOf(t, sh)
					words[trial.HeadAt(sh, sh.Objects)+1] = tag*half + low
					if v := holdLook(t, sh, words); len(v.Free) != sh.Objects {
						t.Errorf("%+v, the last link is %x: %v", sh, tag*half+low, v.Free)
					}
					holdCheck(t, sh, words)
				}
			}
		}
	}
}

// A list of all objects of the greatest shape, in an order of its own; and one that comes back to each of them.
func TestP13_1_LongestLists(t *testing.T) {
	from := newSource(6)
	sh := trial.RightShapes()[2]
	var all []int
	for index := 1; index <= sh.Objects; index++ {
		all = append(all, index)
	}
	for round := range 70 {
		order := from.shuffled(all)
		words := freshOf(t, sh)
		words[1], words[2], words[3] = uint64(order[0]), uint64(order[9]), uint64(order[0])
		for i, index := range order {
			behind := uint64(0)
			if i+1 < len(order) {
				behind = uint64(order[i+1])
			} else if round > 0 {
				behind = uint64(order[round%len(order)])
			}
			words[trial.HeadAt(sh, index)+1], words[trial.HeadAt(sh, index)+2] = behind, half+behind
		}
		v := holdLook(t, sh, words)
		if !slices.Equal(v.Free, order) || !slices.Equal(v.Queue, order) || v.Grey[0] != order[9] {
			t.Fatalf("%v: %v %v", order, v.Free, v.Queue)
		}
		holdCheck(t, sh, words)
	}
}

func TestP13_1_LookOfAnyWords(t *testing.T) {
	from := newSource(7)
	for range 20000 {
		sh := from.Shape()
		words := from.Words(sh)
		holdLook(t, sh, words)
	}
	for _, sh := range trial.RightShapes() {
		for _, w := range append(trial.Values(), 0x5555555555555555, 0xaaaaaaaaaaaaaaaa) {
			words := make([]uint64, trial.SizeOf(sh))
			for at := range words {
				words[at] = w
			}
			holdLook(t, sh, words)
			holdCheck(t, sh, words)
		}
	}
}

// Memories that runs leave, behind each of their steps.
func TestP13_1_MemoriesOfRuns(t *testing.T) {
	from := newSource(8)
	for range 60 {
		sh := api.Shape{Objects: 1 + from.Below(5), Slots: from.Below(3), Hands: 2, Roots: 3, Weaks: from.Below(2)}
		words := from.sound(sh)
		x, _, e := trial.Heap().Model(sh, words, from.HeapJobs(sh, 5), from.Schedule(30), 400)
		if e != api.OK || !x.Ended {
			t.Fatal(x, e)
		}
		for n := range len(x.Steps) + 1 {
			behind, e := view.Replay(words, x.Steps, n)
			if e != api.OK {
				t.Fatal(e)
			}
			holdLook(t, sh, behind)
			holdCheck(t, sh, behind)
		}
		holdLook(t, sh, x.Words)
	}
}

// The same of acts of any kind at any word.
func TestP13_1_MemoriesOfActs(t *testing.T) {
	from := newSource(9)
	for range 100 {
		sh := from.Shape()
		words := freshOf(t, sh)
		x, _, e := turn.Acts(words, from.acts(len(words), 3, 20), from.Schedule(20), 100)
		if e != api.OK {
			t.Fatal(e)
		}
		holdLook(t, sh, x.Words)
		holdCheck(t, sh, x.Words)
		_, scripted, e := cells.Script(words, x.Steps)
		if e != api.OK || len(scripted) != len(words) {
			t.Fatal(e)
		}
		holdLook(t, sh, scripted)
	}
}

// acts: for so many hands, at words and beside them.
func (s *source) acts(words, hands, most int) [][]api.Job {
	return s.Jobs(hands, most, func() api.Job {
		j := api.Job{Kind: api.Load + s.Below(5), A: s.Below(words+4) - 2, B: s.Below(2), H: s.Near(5)}
		switch s.Below(6) {
		case 0:
			j.A, j.H = s.End(), s.Value()
		case 1:
			j.A = s.Below(4)
		}
		return j
	})
}
