package shade_test

import (
	"math"
	"slices"
	"testing"

	"midden/api"
	"midden/cells"
	"midden/shade"
	"midden/shape"
	"midden/trial"
	"midden/turn"
)

// holdOne fails, if a job of one hand alone doesn't give just these steps, that answer and these words.
func holdOne(t *testing.T, sh api.Shape, j api.Job, words []uint64, steps []api.Step, want api.Answer, after []uint64) {
	t.Helper()
	shades.HoldSteps(t, sh, words, [][]api.Job{{j}}, nil, steps, [][]api.Answer{{want}}, after)
	play(t, sh, words, [][]api.Job{{j}}, nil, 100)
}

func TestP16_1_Examples(t *testing.T) {
	words, _ := shape.Fresh(one)
	words[10] = 1
	const first, second = half + 1, 2 * half
	steps := []api.Step{
		trial.Load(0, 10, 1), trial.CAS(0, 10, 1, 3), trial.Load(0, 2, 0), trial.Store(0, 11, 0, 0), trial.CAS(0, 2, 0, first),
		trial.Load(0, 10, 3),
		trial.Load(0, 2, first), trial.Load(0, 11, 0), trial.CAS(0, 2, first, second), trial.Load(0, 2, second),
		trial.Load(0, -1, 0), trial.Load(0, -1, 0),
	}
	jobs := []api.Job{mark(1, 1), mark(1, 1), next, next, mark(7, 1), mark(0, 1)}
	answers := []api.Answer{trial.Told(1), {}, trial.Told(1), {}, {}, {}}
	shades.HoldSteps(t, one, words, [][]api.Job{jobs}, nil, steps, [][]api.Answer{answers}, with(with(words, 10, 3), 2, second))
	if shade.Shade != 1 || shade.Next != 2 {
		t.Error("the kinds", shade.Shade, shade.Next)
	}
	// Each of them alone, one behind the other.
	is := words
	for i, j := range jobs {
		x, a := play(t, one, is, [][]api.Job{{j}}, nil, 100)
		if !x.Ended || a[0][0] != answers[i] {
			t.Error(i, x, a)
		}
		is = x.Words
	}
}

// The steps of a Mark, with every field: of a head nothing but bit 1 is turned, of Grey nothing but the index goes into the
// link, whatever stood there.
func TestP16_1_StepsOfAMark(t *testing.T) {
	for number := 1; number <= 3; number++ {
		at := trial.HeadAt(three, number)
		for _, head := range []uint64{1, 5, 13, 0xff01, 0xffff00f1, 0xffff_fffd, 7*half + 1, (half-1)*half + 0xfffffffd} {
			for colour := range 2 {
				for _, tag := range tags() {
					for below := range 4 {
						is := head
						if colour == 0 {
							is |= 2
						}
						grey, link := tagged(below, tag), uint64(math.MaxUint64-5)
						words := with(with(memory(three, grey, cell{8, 8}, cell{8, 8}, cell{8, 8}), at, is), at+1, link)
						turned := tagged(number, (tag+1)%half)
						holdOne(t, three, mark(tagged(number, head/half), colour), words, []api.Step{
							trial.Load(0, at, is), trial.CAS(0, at, is, is^2),
							trial.Load(0, 2, grey), trial.Store(0, at+1, link, uint64(below)), trial.CAS(0, 2, grey, turned),
						}, trial.Told(uint64(number)), with(with(with(words, at, is^2), at+1, uint64(below)), 2, turned))
					}
				}
			}
		}
	}
}

// Grey shows a number of no object: that goes into the link, and the object is put ahead of it.
func TestP16_1_MarkAheadOfNoObject(t *testing.T) {
	for _, far := range farNumbers(3) {
		words := memory(three, tagged(far, 4), cell{}, cell{2*half + 1, 9}, cell{})
		holdOne(t, three, mark(tagged(2, 2), 1), words, []api.Step{
			trial.Load(0, 14, 2*half+1), trial.CAS(0, 14, 2*half+1, 2*half+3),
			trial.Load(0, 2, tagged(far, 4)), trial.Store(0, 15, 9, uint64(far)), trial.CAS(0, 2, tagged(far, 4), tagged(2, 5)),
		}, trial.Told(2), with(with(with(words, 14, 2*half+3), 15, uint64(far)), 2, tagged(2, 5)))
	}
}

// Handles of which there is nothing to shade: one load, and nothing else.
func TestP16_1_NothingToShade(t *testing.T) {
	const gen = 6
	used, other := uint64(gen*half+1), uint64(gen*half+3) // of the colours 0 and 1
	words := memory(three, tagged(3, 3), cell{used, 7}, cell{other, 7}, cell{gen * half, 0})
	hold := func(name string, h uint64, colour, at int, had uint64) {
		t.Helper()
		holdOne(t, three, mark(h, colour), words, []api.Step{trial.Load(0, at, had)}, api.Answer{}, words)
		if t.Failed() {
			t.Fatal(name)
		}
	}
	for colour := range 2 {
		hold("none", 0, colour, -1, 0)
		hold("index 0 with a generation", gen*half, colour, -1, 0)
		hold("index 0 with the greatest generation", (half-1)*half, colour, -1, 0)
		for _, far := range farNumbers(3) {
			hold("past the objects", tagged(far, 0), colour, -1, 0)
			hold("past the objects, with a generation", tagged(far, gen), colour, -1, 0)
		}
		for _, wrong := range []uint64{0, 1, gen - 1, gen + 1, half - 1} {
			hold("another generation", tagged(1, wrong), colour, 10, used)
			hold("another generation", tagged(2, wrong), colour, 14, other)
		}
		hold("out of use", tagged(3, gen), colour, 18, gen*half)
		words[18] = gen*half + 0xfffe // all but in use, of the colour 1
		hold("out of use", tagged(3, gen), colour, 18, words[18])
		words[18] = gen * half
	}
	hold("of the colour already", tagged(1, gen), 0, 10, used)
	hold("of the colour already", tagged(2, gen), 1, 14, other)
}

// holdWinner: a Mark by a task alone ends OK, or tells nothing.
func holdWinner(t *testing.T, k turn.Task, words []uint64, want api.Answer) {
	t.Helper()
	m, _ := cells.New(words)
	for range 5 {
		if _, state := k.Step(m); state == turn.Ended {
			break
		}
	}
	if k.Answer() != want {
		t.Errorf("%x: %v; want %v", words, k.Answer(), want)
	}
}

// Of a colour the last bit counts, in Mark; a job's is refused, if it isn't 0 or 1.
func TestP16_1_Colours(t *testing.T) {
	colours := append(trial.Ends(), 0, 1, 2, 3, 4, 5, -3, -4, 1<<32, 1<<32+1, 255, 256)
	for _, colour := range colours {
		isOdd := colour%2 != 0
		for own := range uint64(2) {
			words := memory(one, 0, cell{2*own + 1, 0})
			want := api.Answer{}
			if isOdd != (own == 1) {
				want = trial.Told(1)
			}
			holdWinner(t, shade.Mark(one, 0, 1, colour), words, want)
			shades.HoldTask(t, one, 3, mark(1, colour), words, 9)
			shades.HoldTask(t, one, 3, mark(0, colour), words, 9)
			_, a, e := shade.Play(one, words, [][]api.Job{{mark(1, colour)}}, nil, 9)
			if isColour := colour == 0 || colour == 1; isColour && (e != api.OK || a[0][0] != want) || !isColour && (e != api.ErrArg || a != nil) {
				t.Error(colour, own, a, e)
			}
		}
	}
}

// The steps of a Pull, with every field; of a link nothing but its lower half goes into Grey.
func TestP16_1_StepsOfAPull(t *testing.T) {
	for number := 1; number <= 3; number++ {
		at := trial.LinkAt(three, number)
		for _, tag := range tags() {
			for _, below := range append([]int{0, 1, 2, 3}, farNumbers(3)...) { // an object's own number, too
				for _, upper := range []uint64{0, 1, half - 1} {
					grey, link := tagged(number, tag), tagged(below, upper)
					words := with(memory(three, grey, cell{8, 8}, cell{8, 8}, cell{8, 8}), at, link)
					turned := tagged(below, (tag+1)%half)
					holdOne(t, three, next, words, []api.Step{
						trial.Load(0, 2, grey), trial.Load(0, at, link), trial.CAS(0, 2, grey, turned),
					}, trial.Told(uint64(number)), with(words, 2, turned))
				}
			}
		}
	}
}

// A list that is empty, and one whose first number is past the objects: one load, and nothing else.
func TestP16_1_NothingToPull(t *testing.T) {
	for _, number := range append(farNumbers(3), 0) {
		for _, tag := range tags() {
			words := memory(three, tagged(number, tag), cell{1, 2}, cell{1, 3}, cell{1, 0})
			holdOne(t, three, next, words, []api.Step{trial.Load(0, 2, words[2])}, api.Answer{}, words)
		}
	}
	// A link leads there.
	for _, number := range farNumbers(3) {
		words := memory(three, tagged(2, 8), cell{1, 7}, cell{1, tagged(number, 5)}, cell{1, 7})
		x, a := play(t, three, words, [][]api.Job{{next, next, mark(1, 1), next, next}}, nil, 100)
		if !slices.Equal(a[0], []api.Answer{trial.Told(2), {}, trial.Told(1), trial.Told(1), {}}) || x.Words[2] != tagged(number, 11) {
			t.Error(number, x, a)
		}
	}
}

// Each object of each shape has its own words.
func TestP16_1_EachObject(t *testing.T) {
	for _, sh := range trial.RightShapes() {
		for number := 1; number <= sh.Objects; number++ {
			at := trial.HeadAt(sh, number)
			words := with(with(memory(sh, tagged(1, 2)), at, 3*half+1), at+1, 77)
			painted := with(with(with(words, at, 3*half+3), at+1, 1), 2, tagged(number, 3))
			holdOne(t, sh, mark(tagged(number, 3), 1), words, []api.Step{
				trial.Load(0, at, 3*half+1), trial.CAS(0, at, 3*half+1, 3*half+3),
				trial.Load(0, 2, words[2]), trial.Store(0, at+1, 77, 1), trial.CAS(0, 2, words[2], painted[2]),
			}, trial.Told(uint64(number)), painted)
			holdOne(t, sh, next, painted, []api.Step{
				trial.Load(0, 2, painted[2]), trial.Load(0, at+1, 1), trial.CAS(0, 2, painted[2], tagged(1, 4)),
			}, trial.Told(uint64(number)), with(painted, 2, tagged(1, 4)))
		}
		for _, far := range farNumbers(sh.Objects) {
			words := memory(sh, tagged(far, 1))
			holdOne(t, sh, mark(uint64(far), 1), words, []api.Step{trial.Load(0, -1, 0)}, api.Answer{}, words)
			holdOne(t, sh, next, words, []api.Step{trial.Load(0, 2, words[2])}, api.Answer{}, words)
		}
	}
}

// Tags go from their greatest to 0.
func TestP16_1_GreatestTag(t *testing.T) {
	words := memory(three, tagged(3, half-1), cell{1, 0}, cell{1, 0}, cell{3, 0})
	x, a := play(t, three, words, [][]api.Job{{mark(1, 1)}}, nil, 100)
	if a[0][0] != trial.Told(1) || x.Words[2] != 1 || x.Words[11] != 3 {
		t.Error("a Shade", x, a)
	}
	x, a = play(t, three, words, [][]api.Job{{next}}, nil, 100)
	if a[0][0] != trial.Told(3) || x.Words[2] != 0 {
		t.Error("a Next", x, a)
	}
	// A hand that has loaded the word ahead of that loses its CAS.
	x, a = play(t, three, words, [][]api.Job{{mark(1, 1)}, {next, mark(2, 1)}}, append([]int{0, 0, 0, 0}, slices.Repeat([]int{1}, 8)...), 100)
	if trial.CountLost(x, 0, 2) != 1 || x.Words[2] != tagged(1, 2) || x.Words[11] != 2 || x.Words[15] != 0 || a[0][0] != trial.Told(1) {
		t.Error("one behind the other", x, a)
	}
}

// The CAS of a head that another hand came ahead of: the head is loaded again, and isn't white any more.
func TestP16_1_HeadTurnedByAnother(t *testing.T) {
	words := memory(three, 0, cell{1, 9}, cell{1, 9}, cell{1, 9})
	steps := []api.Step{
		trial.Load(0, 14, 1), trial.Load(1, 14, 1), trial.CAS(1, 14, 1, 3), trial.Lost(0, 14, 3), trial.Load(0, 14, 3),
		trial.Load(1, 2, 0), trial.Store(1, 15, 9, 0), trial.CAS(1, 2, 0, half+2),
	}
	after := with(with(with(words, 14, 3), 15, 0), 2, half+2)
	shades.HoldSteps(t, three, words, [][]api.Job{{mark(2, 1)}, {mark(2, 1)}}, []int{0, 1, 1, 0, 0}, steps,
		[][]api.Answer{{{}}, {trial.Told(2)}}, after)
	// Who comes behind the CAS but ahead of the list finds it done.
	steps = []api.Step{
		trial.Load(1, 14, 1), trial.CAS(1, 14, 1, 3), trial.Load(0, 14, 3),
		trial.Load(1, 2, 0), trial.Store(1, 15, 9, 0), trial.CAS(1, 2, 0, half+2),
	}
	shades.HoldSteps(t, three, words, [][]api.Job{{mark(2, 1)}, {mark(2, 1)}}, []int{1, 1, 0}, steps,
		[][]api.Answer{{{}}, {trial.Told(2)}}, after)
	// All eight hands have loaded the head: one of them has it.
	for first := range api.MaxHands {
		schedule := []int{0, 1, 2, 3, 4, 5, 6, 7, first}
		x, a := play(t, three, words, slices.Repeat([][]api.Job{{mark(2, 1)}}, api.MaxHands), schedule, 100)
		for h := range a {
			want, lost := api.Answer{}, 1
			if h == first {
				want, lost = trial.Told(2), 0
			}
			if a[h][0] != want || trial.CountLost(x, h, 14) != lost {
				t.Error(first, h, x, a)
			}
		}
	}
}

// A head that was turned and turned again stands as it stood: the CAS is done, though the object is on the list already.
func TestP16_1_HeadThatCameAgain(t *testing.T) {
	words := memory(one, 0, cell{1, 9})
	schedule := append([]int{0}, slices.Repeat([]int{1}, 10)...)
	x, a := play(t, one, words, [][]api.Job{{mark(1, 1)}, {mark(1, 1), mark(1, 0)}}, schedule, 100)
	if trial.CountLost(x, 0, 10) != 0 || a[0][0] != trial.Told(1) || x.Words[10] != 3 || x.Words[11] != 1 || x.Words[2] != tagged(1, 3) {
		t.Error(x, a)
	}
	// Turned once more: it is lost, and then not white.
	schedule = append(schedule, 1, 1, 1, 1, 1)
	x, a = play(t, one, words, [][]api.Job{{mark(1, 1)}, {mark(1, 1), mark(1, 0), mark(1, 1)}}, schedule, 100)
	if trial.CountLost(x, 0, 10) != 1 || a[0][0] != (api.Answer{}) || x.Words[2] != tagged(1, 3) {
		t.Error(x, a)
	}
}

// A head that changes otherwise between load and CAS: it is loaded again, and goes by what stands there then.
func TestP16_1_HeadChangedAmid(t *testing.T) {
	const hand = 12
	words := memory(one, tagged(0, 4), cell{5*half + 1, 9})
	h := tagged(1, 5)
	rest := []api.Step{trial.Load(hand, 2, tagged(0, 4)), trial.Store(hand, 11, 9, 0), trial.CAS(hand, 2, tagged(0, 4), tagged(1, 5))}
	for _, c := range []struct {
		name string
		is   uint64
		done bool
	}{
		{"a cycle older", 5*half + 0x101, true},
		{"taken", 5*half + 0xd, true},
		{"with bits that aren't looked at", 5*half + 0xffff00f1, true},
		{"out of use", 5 * half, false},
		{"given back", 6 * half, false},
		{"given back and made again", 6*half + 1, false},
		{"of the colour, and older", 5*half + 0x103, false},
		{"nothing", 0, false},
	} {
		steps, told, after := trial.Drive(t, shade.Mark(one, hand, h, 1), words, map[int]trial.Put{1: {10, c.is}})
		want := []api.Step{trial.Load(hand, 10, words[10]), trial.Lost(hand, 10, c.is), trial.Load(hand, 10, c.is)}
		if c.done {
			want = append(append(want, trial.CAS(hand, 10, c.is, c.is^2)), rest...)
		}
		if !slices.Equal(steps, want) || told.OK != c.done || c.done && (after[10] != c.is^2 || told.Val != 1) || !c.done && told.Val != 0 {
			t.Error(c.name, steps, told, after)
		}
	}
	// Behind its CAS the head isn't looked at any more.
	steps, told, after := trial.Drive(t, shade.Mark(one, hand, h, 1), words, map[int]trial.Put{2: {10, 0}})
	if len(steps) != 5 || told != trial.Told(1) || after[10] != 0 || after[2] != tagged(1, 5) {
		t.Error(steps, told, after)
	}
	// Another colour by the last bit, again and again.
	steps, told, _ = trial.Drive(t, shade.Mark(one, hand, h, -2), words, map[int]trial.Put{0: {10, 5*half + 3}, 1: {10, 5*half + 0x103}, 3: {10, 5*half + 0x203}, 5: {10, 5*half + 1}})
	if len(steps) != 7 || told != (api.Answer{}) {
		t.Error(steps, told)
	}
}

// Grey changes between load and CAS, again and again: it is loaded anew, and the link is stored anew.
func TestP16_1_GreyTurnedByAnother(t *testing.T) {
	words := memory(three, tagged(3, 1), cell{1, 9}, cell{1, 9}, cell{3, 0})
	// Hand 1 takes object 3 between hand 0's load and its CAS.
	steps := []api.Step{
		trial.Load(0, 10, 1), trial.CAS(0, 10, 1, 3), trial.Load(0, 2, tagged(3, 1)),
		trial.Load(1, 2, tagged(3, 1)), trial.Load(1, 19, 0), trial.CAS(1, 2, tagged(3, 1), tagged(0, 2)),
		trial.Store(0, 11, 9, 3), trial.Lost(0, 2, tagged(0, 2)),
		trial.Load(0, 2, tagged(0, 2)), trial.Store(0, 11, 3, 0), trial.CAS(0, 2, tagged(0, 2), tagged(1, 3)),
	}
	shades.HoldSteps(t, three, words, [][]api.Job{{mark(1, 1)}, {next}}, []int{0, 0, 0, 1, 1, 1}, steps,
		[][]api.Answer{{trial.Told(1)}, {trial.Told(3)}}, with(with(with(words, 10, 3), 11, 0), 2, tagged(1, 3)))
	// The other way: hand 0 puts object 1 there between hand 1's load and its CAS.
	steps = []api.Step{
		trial.Load(1, 2, tagged(3, 1)), trial.Load(1, 19, 0),
		trial.Load(0, 10, 1), trial.CAS(0, 10, 1, 3), trial.Load(0, 2, tagged(3, 1)), trial.Store(0, 11, 9, 3), trial.CAS(0, 2, tagged(3, 1), tagged(1, 2)),
		trial.Lost(1, 2, tagged(1, 2)),
		trial.Load(1, 2, tagged(1, 2)), trial.Load(1, 11, 3), trial.CAS(1, 2, tagged(1, 2), tagged(3, 3)),
	}
	shades.HoldSteps(t, three, words, [][]api.Job{{mark(1, 1)}, {next}}, []int{1, 1, 0, 0, 0, 0, 0}, steps,
		[][]api.Answer{{trial.Told(1)}, {trial.Told(1)}}, with(with(with(words, 10, 3), 11, 3), 2, tagged(3, 3)))
	// Two Nexts of one object: the second one finds nothing.
	steps = []api.Step{
		trial.Load(0, 2, tagged(3, 1)), trial.Load(1, 2, tagged(3, 1)), trial.Load(0, 19, 0), trial.Load(1, 19, 0),
		trial.CAS(1, 2, tagged(3, 1), tagged(0, 2)), trial.Lost(0, 2, tagged(0, 2)), trial.Load(0, 2, tagged(0, 2)),
	}
	shades.HoldSteps(t, three, words, [][]api.Job{{next}, {next}}, []int{0, 1, 0, 1, 1, 0}, steps,
		[][]api.Answer{{{}}, {trial.Told(3)}}, with(words, 2, tagged(0, 2)))
}

// Hand 1 does whole jobs between hand 0's load of Grey and its CAS, so often.
func TestP16_1_GreyLostAgainAndAgain(t *testing.T) {
	for _, times := range []int{0, 1, 2, 5, 60} {
		words := memory(three, tagged(3, half-9), cell{1, 9}, cell{1, 9}, cell{3, 0})
		var others []api.Job
		marking, pulling := []int{0, 0}, []int{}
		for i := range times {
			others = append(others, []api.Job{mark(2, 1), next, mark(2, 0), next}[i%4])
			amid := slices.Repeat([]int{1}, []int{5, 3}[i%2])
			marking = slices.Concat(marking, []int{0}, amid, []int{0, 0})
			pulling = slices.Concat(pulling, []int{0, 0}, amid, []int{0})
		}
		x, a := play(t, three, words, [][]api.Job{{mark(1, 1)}, others}, marking, 2000)
		if !x.Ended || trial.CountLost(x, 0, 2) != times || a[0][0] != trial.Told(1) || trial.Number(x.Words[2]) != 1 {
			t.Error("a Shade", times, x, a)
		}
		x, a = play(t, three, words, [][]api.Job{{next}, others}, pulling, 2000)
		if !x.Ended || trial.CountLost(x, 0, 2) != times || !a[0][0].OK {
			t.Error("a Next", times, x, a)
		}
	}
}

// Grey shows the same object again, with another tag, and another link below it: the CAS isn't done.
func TestP16_1_GreyThatCameAgain(t *testing.T) {
	words := memory(three, tagged(1, 7), cell{3, 2}, cell{3, 0}, cell{1, 9})
	sleeps := []int{0, 0}
	for range 2*3 + 3*5 {
		sleeps = append(sleeps, 1)
	}
	// Hand 1 takes 1 and 2, puts 3 there, and then 1, which was of another colour in between.
	x, a := play(t, three, words, [][]api.Job{{next}, {next, next, mark(3, 1), mark(1, 0), mark(1, 1)}}, sleeps, 100)
	if trial.Number(x.Steps[len(sleeps)].Had) != 1 || trial.CountLost(x, 0, 2) != 1 || a[0][0] != trial.Told(1) || trial.Number(x.Words[2]) == 2 {
		t.Error("a Next", x, a)
	}
	x, a = play(t, three, words, [][]api.Job{{mark(3, 1)}, {next, mark(1, 0), next, mark(1, 1)}}, append([]int{0, 0, 0, 0}, slices.Repeat([]int{1}, 16)...), 100)
	if x.Steps[20].OK || trial.Number(x.Steps[20].Had) != 1 || x.Words[2] != tagged(3, 7+5) || x.Words[19] != 1 || a[0][0] != trial.Told(3) {
		t.Error("a Shade", x, a)
	}
}

// Grey or a link by hand, between the steps of a Pull that is driven alone.
func TestP16_1_PullDrivenAlone(t *testing.T) {
	words := memory(three, tagged(1, 7), cell{3, tagged(2, 9)}, cell{3, 3}, cell{3, 0})
	for _, hand := range append(trial.Ends(), 0, 7, 8, 99) {
		steps, told, after := trial.Drive(t, shade.Pull(three, hand), words, nil)
		want := []api.Step{trial.Load(hand, 2, words[2]), trial.Load(hand, 11, words[11]), trial.CAS(hand, 2, words[2], tagged(2, 8))}
		if !slices.Equal(steps, want) || told != trial.Told(1) || !slices.Equal(after, with(words, 2, tagged(2, 8))) {
			t.Error("alone", hand, steps, told)
		}
		// The link goes by what stands there when it is loaded.
		steps, told, after = trial.Drive(t, shade.Pull(three, hand), words, map[int]trial.Put{1: {11, 3}, 2: {11, 0}})
		if len(steps) != 3 || told != trial.Told(1) || after[2] != tagged(3, 8) {
			t.Error("another link", hand, steps, told)
		}
		// Grey shows another object, of another link; then the same tag again with another one; then none.
		steps, told, after = trial.Drive(t, shade.Pull(three, hand), words, map[int]trial.Put{2: {2, tagged(2, 8)}, 5: {2, tagged(3, 8)}, 8: {2, tagged(0, 8)}})
		want = []api.Step{
			trial.Load(hand, 2, words[2]), trial.Load(hand, 11, words[11]), trial.Lost(hand, 2, tagged(2, 8)),
			trial.Load(hand, 2, tagged(2, 8)), trial.Load(hand, 15, 3), trial.Lost(hand, 2, tagged(3, 8)),
			trial.Load(hand, 2, tagged(3, 8)), trial.Load(hand, 19, 0), trial.Lost(hand, 2, tagged(0, 8)),
			trial.Load(hand, 2, tagged(0, 8)),
		}
		if !slices.Equal(steps, want) || told != (api.Answer{}) || after[2] != tagged(0, 8) {
			t.Error("other lists", hand, steps, told)
		}
	}
}

// A link that shows its own object, and lists that run around: the tables ask nothing of the words.
func TestP16_1_LinksAroundAgain(t *testing.T) {
	words := memory(three, 1, cell{1, 1}, cell{1, 3}, cell{1, 2})
	for _, jobs := range [][]api.Job{{next, next, next}, {mark(2, 1), next, next}, {mark(1, 1), mark(1, 0), next}} {
		for schedule := range trial.Lists(2, 9) {
			play(t, three, words, [][]api.Job{jobs, {mark(1, 1), next}}, schedule, 60)
		}
	}
}

// A task alone, by hands of any number, on memories by hand: shorter than the shape's, longer, and none at all.
func TestP16_1_TaskAlone(t *testing.T) {
	from := trial.Source(1)
	for _, hand := range append(trial.Ends(), 0, 1, 7, 8, 9, 1<<32) {
		for range 60 {
			sh := from.SmallShape()
			long := append(anyWords(&from, sh), from.Words(sh)...)
			words := long[:from.Below(len(long)+1)]
			if from.Below(3) == 0 {
				words = long[:trial.HeadAt(sh, sh.Objects)+from.Below(3)] // the last object's head or link is no word
			}
			for _, j := range append(slices.Concat(anyJobs(&from, sh, long, append(trial.Ends(), 0, 1), 1, 5)...), next) {
				shades.HoldTask(t, sh, hand, j, words, 30)
				shades.HoldTask(t, sh, hand, j, nil, 30)
			}
		}
	}
}

// The same with acts of others amid it, at the words that it looks at and at any others.
func TestP16_1_TaskAmidOthers(t *testing.T) {
	from := trial.Source(2)
	for range 20000 {
		sh := from.SmallShape()
		words := anyWords(&from, sh)
		jobs := slices.Concat(anyJobs(&from, sh, words, both, 1, 2)...)
		if len(jobs) == 0 {
			continue
		}
		number := 1 + from.Below(sh.Objects)
		shades.HoldTaskAmid(t, sh, from.End(), jobs[0], words, 40, func(i int) []api.Step {
			if i > 25 || from.Below(3) > 0 {
				return nil
			}
			at := []int{api.Grey, api.Grey, trial.HeadAt(sh, number), trial.HeadAt(sh, number), trial.LinkAt(sh, number), from.Below(len(words))}[from.Below(6)]
			put := []uint64{half, 1, 2, 256, from.One(sh)}[from.Below(5)]
			return []api.Step{{Act: []int{api.Add, api.Add, api.Store}[from.Below(3)], At: at, Put: put}}
		})
	}
}

// Jobs of several hands in every order of their steps, from words that are lists and from words that are none.
func TestP16_1_EveryOrder(t *testing.T) {
	for _, hands := range [][][]api.Job{
		{{mark(1, 1)}, {mark(1, 1)}},
		{{mark(1, 1)}, {mark(1, 0)}},
		{{mark(1, 1)}, {mark(2, 1)}},
		{{mark(1, 1)}, {next}},
		{{next}, {next}, {next}},
		{{mark(2, 1)}, {mark(2, 1)}, {next}},
		{{mark(1, 0), mark(1, 1)}, {next, next}},
		{{mark(1, 1), mark(1, 0)}, {mark(1, 1)}},
		{{mark(3, 1), mark(2, 1)}, {mark(9, 0), next}},
	} {
		for _, words := range [][]uint64{
			memory(three, 0, cell{1, 0}, cell{1, 0}, cell{1, 0}),
			memory(three, tagged(3, half-1), cell{1, 0}, cell{1, 0}, cell{3, 0}),
			memory(three, tagged(1, half-2), cell{3, tagged(2, 6)}, cell{3, 3}, cell{3, 0}),
			memory(three, tagged(1, 5), cell{1, 1}, cell{3, 2}, cell{1, 9}), // 1 shows itself, and isn't of one colour with 2
			memory(three, tagged(7, 5), cell{1, 1}, cell{half + 1, 2}, cell{0, 9}),
		} {
			everyOrder(t, three, words, hands, func(schedule []int) {
				play(t, three, words, hands, schedule, len(schedule))
			})
		}
	}
}

// All schedules of the first steps; behind them the hands take turns.
func TestP16_1_EverySchedule(t *testing.T) {
	words := memory(three, tagged(3, half-2), cell{1, 9}, cell{1, 9}, cell{3, 0})
	for _, hands := range [][][]api.Job{
		{{mark(1, 1), next}, {mark(1, 1), next}},
		{{mark(1, 1), mark(2, 1)}, {next, next, next}},
	} {
		for schedule := range trial.Lists(2, 12) {
			play(t, three, words, hands, schedule, 100)
		}
	}
	for schedule := range trial.Lists(3, 8) {
		play(t, three, words, [][]api.Job{{mark(1, 1)}, {mark(1, 1), mark(2, 0)}, {next, mark(2, 1)}}, schedule, 100)
	}
}
