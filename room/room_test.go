package room_test

import (
	"math"
	"slices"
	"testing"

	"midden/api"
	"midden/room"
	"midden/trial"
)

// holdOne fails, if a job of one hand alone doesn't give just these steps, that answer and these words.
func holdOne(t *testing.T, sh api.Shape, j api.Job, words []uint64, steps []api.Step, want api.Answer, after []uint64) {
	t.Helper()
	rooms.HoldSteps(t, sh, words, [][]api.Job{{j}}, nil, steps, [][]api.Answer{{want}}, after)
	play(t, sh, words, [][]api.Job{{j}}, nil, 100)
}

// after: the words, behind these steps of whoever.
func after(words []uint64, steps []api.Step) []uint64 {
	out := slices.Clone(words)
	for _, s := range steps {
		if s.At >= 0 {
			out[s.At] = s.Put
		}
	}
	return out
}

func TestP17_1_Examples(t *testing.T) {
	sh := api.Shape{Objects: 2, Slots: 1, Hands: 1, Roots: 1} // heads 10 and 14
	jobs := []api.Job{alloc, allocOf(1, 0), alloc, back(1), alloc}
	steps := []api.Step{
		trial.Load(0, 1, 1), trial.Load(0, 11, 2), trial.CAS(0, 1, 1, half+2), trial.Load(0, 10, 0), trial.Store(0, 10, 0, 1), trial.Add(0, 4, 0, 1),
		trial.Load(0, 1, half+2), trial.Load(0, 15, 0), trial.CAS(0, 1, half+2, 2*half), trial.Load(0, 14, 0), trial.Store(0, 14, 0, 5), trial.Add(0, 4, 1, 2),
		trial.Load(0, 1, 2*half),
		trial.Store(0, 13, 0, 0), trial.Load(0, 10, 1), trial.Store(0, 10, 1, half),
		trial.Load(0, 1, 2*half), trial.Store(0, 11, 2, 0), trial.CAS(0, 1, 2*half, 3*half+1), trial.Add(0, 5, 0, 1),
		trial.Load(0, 1, 3*half+1), trial.Load(0, 11, 0), trial.CAS(0, 1, 3*half+1, 4*half),
		trial.Load(0, 10, half), trial.Store(0, 10, half, half+1), trial.Add(0, 4, 2, 3),
	}
	answers := []api.Answer{trial.Told(1), trial.Told(2), {}, trial.Told(1), trial.Told(half + 1)}
	rooms.HoldSteps(t, sh, fresh(t, sh), [][]api.Job{jobs}, nil, steps, [][]api.Answer{answers}, after(fresh(t, sh), steps))
	if room.Alloc != 1 || room.Back != 2 {
		t.Error("the kinds", room.Alloc, room.Back)
	}
	// Two hands at one object.
	steps = []api.Step{
		trial.Load(0, 1, 1), trial.Load(0, 11, 2),
		trial.Load(1, 1, 1), trial.Load(1, 11, 2), trial.CAS(1, 1, 1, half+2), trial.Load(1, 10, 0), trial.Store(1, 10, 0, 1), trial.Add(1, 4, 0, 1),
		trial.Lost(0, 1, half+2), trial.Load(0, 1, half+2), trial.Load(0, 15, 0), trial.CAS(0, 1, half+2, 2*half),
		trial.Load(0, 14, 0), trial.Store(0, 14, 0, 1), trial.Add(0, 4, 1, 2),
	}
	rooms.HoldSteps(t, sh, fresh(t, sh), [][]api.Job{{alloc}, {alloc}}, []int{0, 0, 1, 1, 1, 1, 1, 1, 0, 0, 0, 0, 0, 0, 0}, steps,
		[][]api.Answer{{trial.Told(2)}, {trial.Told(1)}}, after(fresh(t, sh), steps))
	for _, c := range []struct {
		job  api.Job
		want api.Errno
	}{{back(0), api.ErrArg}, {allocOf(0, 2), api.ErrArg}, {api.Job{Kind: 3}, api.ErrKind}} {
		if x, a, e := room.Play(sh, fresh(t, sh), [][]api.Job{{c.job}}, nil, 9); e != c.want || a != nil || x.Steps != nil {
			t.Error(c, x, a, e)
		}
	}
}

// heads: of objects out of use, in use, and with all bits; the generations are those at the ends.
func heads() []uint64 {
	var out []uint64
	for _, lower := range []int{0, 1, 3, 0xf, 0xff05, half - 1} {
		for _, gen := range []uint64{0, 1, 7, half - 2, half - 1} {
			out = append(out, tagged(lower, gen))
		}
	}
	return out
}

// The steps of a Make, with every field: of the head that stood there nothing stays but the generation; of the link nothing but
// its lower half goes into Free.
func TestP17_1_StepsOfAMake(t *testing.T) {
	for number := 1; number <= 3; number++ {
		at := trial.HeadAt(three, number)
		for i, head := range heads() {
			for _, j := range []api.Job{alloc, allocOf(0, 1), allocOf(1, 0), allocOf(1, 1)} {
				for k, below := range append([]int{0, 1, 2, 3}, farNumbers(3)...) { // its own number, too
					tag := tags()[(i+k)%len(tags())]
					free, link := tagged(number, tag), tagged(below, []uint64{0, 1, half - 1}[k%3])
					words := with(with(memory(three, free), at, head), at+1, link)
					gen := head / half
					steps := []api.Step{
						trial.Load(0, 1, free), trial.Load(0, at+1, link), trial.CAS(0, 1, free, tagged(below, (tag+1)%half)),
						trial.Load(0, at, head), trial.Store(0, at, head, headOf(j, gen)), trial.Add(0, 4, 1004, 1005),
					}
					holdOne(t, three, j, words, steps, trial.Told(tagged(number, gen)), after(words, steps))
				}
			}
		}
	}
}

// A list that is empty, and one whose first number is past the objects: one load, and nothing else.
func TestP17_1_NothingToMake(t *testing.T) {
	for _, sh := range trial.RightShapes() {
		for _, number := range append(farNumbers(sh.Objects), 0) {
			for _, tag := range tags() {
				words := memory(sh, tagged(number, tag))
				holdOne(t, sh, alloc, words, []api.Step{trial.Load(0, 1, words[1])}, api.Answer{}, words)
			}
		}
	}
	// A link leads there, and stays in Free.
	for _, number := range farNumbers(3) {
		words := memory(three, tagged(2, 8), cell{0, 7}, cell{0, tagged(number, 5)}, cell{0, 7})
		x, a := play(t, three, words, [][]api.Job{{alloc, alloc, back(2), alloc, alloc}}, nil, 100)
		if !slices.Equal(a[0], []api.Answer{trial.Told(2), {}, trial.Told(2), trial.Told(half + 2), {}}) || x.Words[1] != tagged(number, 11) {
			t.Error(number, x, a)
		}
	}
}

// The steps of a Give, with every field: all of its slots become 0, and of its head nothing stays but the generation.
func TestP17_1_StepsOfAGive(t *testing.T) {
	for number := 1; number <= 3; number++ {
		at := trial.HeadAt(three, number)
		for i, head := range heads() {
			for k, first := range append([]int{0, 1, 2, 3}, farNumbers(3)...) { // its own number, too
				tag := tags()[(i+k)%len(tags())]
				free := tagged(first, tag)
				words := with(memory(three, free), at, head)
				link, slot := words[at+1], words[at+3]
				steps := []api.Step{trial.Store(0, at+3, slot, 0), trial.Store(0, at+4, slot+1, 0), trial.Load(0, at, head)}
				if gen := head / half; gen == half-1 {
					steps = append(steps, trial.Store(0, at, head, gen*half))
				} else {
					steps = append(steps, trial.Store(0, at, head, (gen+1)*half), trial.Load(0, 1, free),
						trial.Store(0, at+1, link, uint64(first)), trial.CAS(0, 1, free, tagged(number, (tag+1)%half)))
				}
				steps = append(steps, trial.Add(0, 5, 1005, 1006))
				holdOne(t, three, back(number), words, steps, trial.Told(uint64(number)), after(words, steps))
			}
		}
	}
}

// Each number of slots, from none to the most.
func TestP17_1_GiveBySlots(t *testing.T) {
	for slots := range api.MaxSlots + 1 {
		sh := api.Shape{Objects: 2, Slots: slots, Hands: 2, Roots: 3, Weaks: 1}
		for number := 1; number <= 2; number++ {
			at := trial.HeadAt(sh, number)
			words := with(memory(sh, tagged(2, 3)), at, 1)
			var steps []api.Step
			for slot := range slots {
				steps = append(steps, trial.Store(0, at+3+slot, uint64(1000+at+3+slot), 0))
			}
			steps = append(steps, trial.Load(0, at, 1), trial.Store(0, at, 1, half), trial.Load(0, 1, words[1]),
				trial.Store(0, at+1, words[at+1], 2), trial.CAS(0, 1, words[1], tagged(number, 4)), trial.Add(0, 5, 1005, 1006))
			holdOne(t, sh, back(number), words, steps, trial.Told(uint64(number)), after(words, steps))
		}
	}
}

// Each object of each shape has its own words.
func TestP17_1_EachObject(t *testing.T) {
	for _, sh := range trial.RightShapes() {
		for number := 1; number <= sh.Objects; number++ {
			at := trial.HeadAt(sh, number)
			words := with(with(memory(sh, tagged(number, 2)), at, 3*half), at+1, 1)
			steps := []api.Step{
				trial.Load(0, 1, words[1]), trial.Load(0, at+1, 1), trial.CAS(0, 1, words[1], tagged(1, 3)),
				trial.Load(0, at, 3*half), trial.Store(0, at, 3*half, 3*half+7), trial.Add(0, 4, 1004, 1005),
			}
			holdOne(t, sh, allocOf(1, 1), words, steps, trial.Told(tagged(number, 3)), after(words, steps))
			words = after(words, steps)
			steps = nil
			for slot := range sh.Slots {
				steps = append(steps, trial.Store(0, at+3+slot, words[at+3+slot], 0))
			}
			steps = append(steps, trial.Load(0, at, 3*half+7), trial.Store(0, at, 3*half+7, 4*half), trial.Load(0, 1, tagged(1, 3)),
				trial.Store(0, at+1, 1, 1), trial.CAS(0, 1, tagged(1, 3), tagged(number, 4)), trial.Add(0, 5, 1005, 1006))
			holdOne(t, sh, back(number), words, steps, trial.Told(uint64(number)), after(words, steps))
		}
	}
}

// A generation at its end: given back, it stays out of use for good; one less goes on the list once more.
func TestP17_1_LastGeneration(t *testing.T) {
	words := memory(bare, tagged(1, 0), cell{(half - 2) * half, 2}, cell{(half - 1) * half, 0})
	jobs := []api.Job{alloc, alloc, alloc, back(1), back(2), alloc, alloc, back(1), alloc}
	x, a := play(t, bare, words, [][]api.Job{jobs}, nil, 200)
	want := []api.Answer{
		trial.Told(tagged(1, half-2)), trial.Told(tagged(2, half-1)), {}, trial.Told(1), trial.Told(2), trial.Told(tagged(1, half-1)), {},
		trial.Told(1), {},
	}
	if !slices.Equal(a[0], want) || x.Words[10] != (half-1)*half || x.Words[13] != (half-1)*half || trial.Number(x.Words[1]) != 0 {
		t.Error(x, a)
	}
	if x.Words[4] != 1004+3 || x.Words[5] != 1005+3 {
		t.Error(x.Words)
	}
	// What is given back behind its end leaves the list as it is, link and all.
	words = memory(three, tagged(3, 5), cell{0, 8}, cell{(half-1)*half + 0xff0d, 9}, cell{0, 1})
	steps := []api.Step{
		trial.Store(0, 18, 1018, 0), trial.Store(0, 19, 1019, 0), trial.Load(0, 15, words[15]), trial.Store(0, 15, words[15], (half-1)*half),
		trial.Add(0, 5, 1005, 1006),
	}
	holdOne(t, three, back(2), words, steps, trial.Told(2), after(words, steps))
	holdOne(t, three, back(2), after(words, steps), []api.Step{
		trial.Store(0, 18, 0, 0), trial.Store(0, 19, 0, 0), trial.Load(0, 15, (half-1)*half), trial.Store(0, 15, (half-1)*half, (half-1)*half),
		trial.Add(0, 5, 1006, 1007),
	}, trial.Told(2), with(after(words, steps), 5, 1007))
}

// An object that is out of use, and stands in the list already, goes back once more: the table asks nothing of it.
func TestP17_1_GiveOutOfUse(t *testing.T) {
	words := fresh(t, three)
	x, a := play(t, three, words, [][]api.Job{{back(1), back(3), back(3), alloc, alloc, alloc}}, nil, 200)
	want := []api.Answer{trial.Told(1), trial.Told(3), trial.Told(3), trial.Told(2*half + 3), trial.Told(2*half + 3), trial.Told(2*half + 3)}
	if !x.Ended || !slices.Equal(a[0], want) || x.Words[11] != 1 || x.Words[21] != 3 || x.Words[10] != half || x.Words[20] != 2*half+1 {
		t.Error(x, a)
	}
	// One that is in use and stands in the list is made once more.
	words = memory(three, 2, cell{1, 0}, cell{5*half + 0xff0f, 2}, cell{1, 0})
	x, a = play(t, three, words, [][]api.Job{{alloc, allocOf(1, 1)}}, nil, 100)
	if !slices.Equal(a[0], []api.Answer{trial.Told(5*half + 2), trial.Told(5*half + 2)}) || x.Words[15] != 5*half+7 || x.Words[1] != 2*half+2 {
		t.Error(x, a)
	}
}

// The counters are added to, around their end, too.
func TestP17_1_Counters(t *testing.T) {
	words := with(with(fresh(t, bare), 4, math.MaxUint64), 5, math.MaxUint64)
	x, _ := play(t, bare, words, [][]api.Job{{alloc, back(1), alloc}}, nil, 100)
	if x.Words[4] != 1 || x.Words[5] != 0 {
		t.Error(x.Words)
	}
	// A Make that is refused isn't counted.
	x, _ = play(t, bare, with(fresh(t, bare), 1, 0), [][]api.Job{{alloc, alloc}}, nil, 100)
	if x.Words[4] != 0 || x.Words[5] != 0 || len(x.Steps) != 2 {
		t.Error(x)
	}
}

// A colour other than 0 counts as 1, in Make; a job's is refused, if it isn't 0 or 1.
func TestP17_1_Colours(t *testing.T) {
	for _, colour := range append(trial.Ends(), 0, 1, 2, 3, 4, -3, -4, 1<<32, 1<<32+1, 1<<62, 255, 256) {
		want := uint64(0)
		if colour != 0 {
			want = 2
		}
		for final := range 2 {
			words := memory(bare, 2, cell{6 * half, 1}, cell{6*half + 0xff0f, 0})
			steps, told, behind := trial.Drive(t, room.Make(bare, 0, final == 1, colour), words, nil)
			if len(steps) != 6 || told != trial.Told(6*half+2) || behind[13] != 6*half+1+want+uint64(4*final) {
				t.Error(colour, final, steps, told, behind)
			}
			rooms.HoldTask(t, bare, 3, allocOf(final, colour), words, 9)
			x, a, e := room.Play(bare, words, [][]api.Job{{allocOf(final, colour)}}, nil, 9)
			switch isColour := colour == 0 || colour == 1; {
			case isColour && (e != api.OK || a[0][0] != told || !slices.Equal(x.Words, behind)):
				t.Error(colour, final, x, a, e)
			case !isColour && (e != api.ErrArg || a != nil || x.Words != nil):
				t.Error(colour, final, x, a, e)
			}
		}
	}
}

// Numbers that are no object's: no slots, and a head and a link that aren't there; Free takes the number's lower half.
func TestP17_1_GiveNoObject(t *testing.T) {
	for _, hand := range append(trial.Ends(), 0, 5) {
		for _, sh := range []api.Shape{three, bare} {
			free := tagged(2, half-1)
			words := memory(sh, free, cell{1, 9}, cell{1, 9})
			for _, number := range append(append(farNumbers(sh.Objects), trial.Ends()...), 0, -3, 1<<32, 1<<32+1, -1<<32+1, 1<<62+7) {
				steps, told, behind := trial.Drive(t, room.Give(sh, hand, number), words, nil)
				turned := uint64(number) & (half - 1)
				want := []api.Step{
					trial.Load(hand, -1, 0), trial.Store(hand, -1, 0, 0), trial.Load(hand, 1, free), trial.Store(hand, -1, 0, 0),
					trial.CAS(hand, 1, free, turned), trial.Add(hand, 5, 1005, 1006),
				}
				val := uint64(0)
				if number > 0 {
					val = uint64(number)
				}
				if !slices.Equal(steps, want) || told != trial.Told(val) || !slices.Equal(behind, after(words, want)) {
					t.Error(sh, hand, number, steps, told)
				}
				rooms.HoldTask(t, sh, hand, back(number), words, 9)
			}
		}
	}
}

// A shape that is none: none of its objects' words is there, whatever the number; and it has no slots. Make goes by its number
// Objects all the same.
func TestP17_1_NoShape(t *testing.T) {
	words := with(fresh(t, three), 1, tagged(2, 6))
	for _, sh := range trial.WrongShapes() {
		for _, number := range []int{1, 2, 9, 0, -1, math.MaxInt} {
			steps, told, behind := trial.Drive(t, room.Give(sh, 4, number), words, nil)
			want := []api.Step{
				trial.Load(4, -1, 0), trial.Store(4, -1, 0, 0), trial.Load(4, 1, words[1]), trial.Store(4, -1, 0, 0),
				trial.CAS(4, 1, words[1], tagged(int(uint64(number)&(half-1)), 7)), trial.Add(4, 5, 0, 1),
			}
			if !slices.Equal(steps, want) || told != trial.Told(uint64(max(number, 0))) || !slices.Equal(behind, after(words, want)) {
				t.Fatal(sh, number, steps, told)
			}
		}
		steps, told, behind := trial.Drive(t, room.Make(sh, 4, true, 1), words, nil)
		want, val := []api.Step{trial.Load(4, 1, words[1])}, api.Answer{}
		if sh.Objects >= 2 {
			want = append(want, trial.Load(4, -1, 0), trial.CAS(4, 1, words[1], tagged(0, 7)), trial.Load(4, -1, 0), trial.Store(4, -1, 0, 0), trial.Add(4, 4, 0, 1))
			val = trial.Told(2)
		}
		if !slices.Equal(steps, want) || told != val || !slices.Equal(behind, after(words, want)) {
			t.Fatal(sh, steps, told)
		}
		rooms.HoldTask(t, sh, -7, alloc, words, 20)
		rooms.HoldTask(t, sh, -7, back(3), words, 20)
		rooms.HoldTask(t, sh, -7, alloc, nil, 20)
		rooms.HoldTask(t, sh, -7, back(3), nil, 20)
	}
}

// The CAS of a Make that another hand's Back comes ahead of: Free is loaded anew, and its object's link too.
func TestP17_1_MakeMeetsBack(t *testing.T) {
	words := memory(three, tagged(2, 1), cell{4*half + 1, 9}, cell{5 * half, 3}, cell{6 * half, 0})
	steps := []api.Step{
		trial.Load(0, 1, tagged(2, 1)), trial.Load(0, 16, 3),
		trial.Store(1, 13, 1013, 0), trial.Store(1, 14, 1014, 0), trial.Load(1, 10, 4*half+1), trial.Store(1, 10, 4*half+1, 5*half),
		trial.Load(1, 1, tagged(2, 1)), trial.Store(1, 11, 9, 2), trial.CAS(1, 1, tagged(2, 1), tagged(1, 2)),
		trial.Lost(0, 1, tagged(1, 2)),
		trial.Load(0, 1, tagged(1, 2)), trial.Load(0, 11, 2), trial.CAS(0, 1, tagged(1, 2), tagged(2, 3)),
		trial.Load(0, 10, 5*half), trial.Store(0, 10, 5*half, 5*half+1), trial.Add(0, 4, 1004, 1005),
		trial.Add(1, 5, 1005, 1006),
	}
	schedule := []int{0, 0, 1, 1, 1, 1, 1, 1, 1, 0, 0, 0, 0, 0, 0, 0}
	rooms.HoldSteps(t, three, words, [][]api.Job{{alloc}, {back(1)}}, schedule, steps,
		[][]api.Answer{{trial.Told(5*half + 1)}, {trial.Told(1)}}, after(words, steps))
	// The other way: the Make is ahead of the Back's CAS; only Free and the link are touched again.
	steps = []api.Step{
		trial.Store(1, 13, 1013, 0), trial.Store(1, 14, 1014, 0), trial.Load(1, 10, 4*half+1), trial.Store(1, 10, 4*half+1, 5*half),
		trial.Load(1, 1, tagged(2, 1)), trial.Store(1, 11, 9, 2),
		trial.Load(0, 1, tagged(2, 1)), trial.Load(0, 16, 3), trial.CAS(0, 1, tagged(2, 1), tagged(3, 2)),
		trial.Lost(1, 1, tagged(3, 2)), trial.Load(1, 1, tagged(3, 2)), trial.Store(1, 11, 2, 3), trial.CAS(1, 1, tagged(3, 2), tagged(1, 3)),
		trial.Add(1, 5, 1005, 1006),
		trial.Load(0, 15, 5*half), trial.Store(0, 15, 5*half, 5*half+1), trial.Add(0, 4, 1004, 1005),
	}
	schedule = []int{1, 1, 1, 1, 1, 1, 0, 0, 0, 1, 1, 1, 1, 1}
	rooms.HoldSteps(t, three, words, [][]api.Job{{alloc}, {back(1)}}, schedule, steps,
		[][]api.Answer{{trial.Told(5*half + 2)}, {trial.Told(1)}}, after(words, steps))
	// Two Backs at one time.
	steps = []api.Step{
		trial.Load(0, 10, 1), trial.Load(1, 13, 1), trial.Store(0, 10, 1, half), trial.Store(1, 13, 1, half),
		trial.Load(0, 1, 0), trial.Load(1, 1, 0), trial.Store(0, 11, 2, 0), trial.Store(1, 14, 0, 0),
		trial.CAS(0, 1, 0, half+1), trial.Lost(1, 1, half+1), trial.Add(0, 5, 0, 1),
		trial.Load(1, 1, half+1), trial.Store(1, 14, 0, 1), trial.CAS(1, 1, half+1, 2*half+2), trial.Add(1, 5, 1, 2),
	}
	words = with(with(with(fresh(t, bare), 1, 0), 10, 1), 13, 1)
	rooms.HoldSteps(t, bare, words, [][]api.Job{{back(1)}, {back(2)}}, []int{0, 1, 0, 1, 0, 1, 0, 1, 0, 1, 0}, steps,
		[][]api.Answer{{trial.Told(1)}, {trial.Told(2)}}, after(words, steps))
}

// The list is empty when the Make loads Free anew.
func TestP17_1_MakeFindsNothingAnew(t *testing.T) {
	sh := api.Shape{Objects: 1, Slots: 1, Hands: 1, Roots: 1}
	for first := range api.MaxHands {
		schedule := slices.Concat([]int{0, 1, 2, 3, 4, 5, 6, 7}, []int{0, 1, 2, 3, 4, 5, 6, 7}, []int{first})
		x, a := play(t, sh, fresh(t, sh), slices.Repeat([][]api.Job{{alloc}}, api.MaxHands), schedule, 200)
		for h := range a {
			want, lost := api.Answer{}, 1
			if h == first {
				want, lost = trial.Told(1), 0
			}
			if a[h][0] != want || trial.CountLost(x, h, 1) != lost || x.Words[4] != 1 {
				t.Error(first, h, x, a)
			}
		}
	}
}

// Hand 1 does whole jobs between hand 0's load of Free and its CAS, so often.
func TestP17_1_FreeLostAgainAndAgain(t *testing.T) {
	for _, times := range []int{0, 1, 2, 5, 60} {
		words := memory(three, tagged(2, half-9), cell{1, 9}, cell{0, 3}, cell{0, 0})
		var others []api.Job
		making, giving := []int{}, slices.Repeat([]int{0}, 4)
		for i := range times {
			others = append(others, []api.Job{alloc, back(2)}[i%2])
			amid := slices.Repeat([]int{1}, []int{6, 8}[i%2])
			making = slices.Concat(making, []int{0, 0}, amid, []int{0})
			giving = slices.Concat(giving, []int{0, 0}, amid, []int{0})
		}
		x, a := play(t, three, words, [][]api.Job{{alloc}, others}, making, 2000)
		if !x.Ended || trial.CountLost(x, 0, 1) != times || !a[0][0].OK {
			t.Error("an Alloc", times, x, a)
		}
		x, a = play(t, three, words, [][]api.Job{{back(1)}, others}, giving, 2000)
		if !x.Ended || trial.CountLost(x, 0, 1) != times || a[0][0] != trial.Told(1) || trial.Number(x.Words[1]) != 1 || x.Words[10] != half {
			t.Error("a Back", times, x, a)
		}
	}
}

// Free shows the same object again, with another tag, and another one below it: the CAS isn't done.
func TestP17_1_FreeThatCameAgain(t *testing.T) {
	words := fresh(t, three)
	sleeps := append([]int{0, 0}, slices.Repeat([]int{1}, 6+6+8)...)
	// Hand 1 has taken 1 and 2, and given 1 back.
	x, a := play(t, three, words, [][]api.Job{{alloc}, {alloc, alloc, back(1)}}, sleeps, 100)
	if s := x.Steps[len(sleeps)]; s.OK || trial.Number(s.Had) != 1 || a[0][0] != trial.Told(half+1) || trial.Number(x.Words[1]) != 3 {
		t.Error("an Alloc", x, a)
	}
	// The tag wraps in between.
	words = with(words, 1, tagged(1, half-1))
	x, a = play(t, three, words, [][]api.Job{{alloc}, {alloc, alloc, back(1)}}, sleeps, 100)
	if s := x.Steps[len(sleeps)]; s.OK || s.Had != tagged(1, 2) || a[0][0] != trial.Told(half+1) || x.Words[1] != tagged(3, 3) {
		t.Error("a tag that wraps", x, a)
	}
	// A Back whose list shows the same object again.
	words = with(with(fresh(t, three), 1, tagged(2, 4)), 10, 1)
	sleeps = append(slices.Repeat([]int{0}, 6), slices.Repeat([]int{1}, 6+8)...)
	x, a = play(t, three, words, [][]api.Job{{back(1)}, {alloc, back(2)}}, sleeps, 100)
	if s := x.Steps[len(sleeps)]; s.OK || s.Had != tagged(2, 6) || a[0][0] != trial.Told(1) || x.Words[1] != tagged(1, 7) || x.Words[11] != 2 {
		t.Error("a Back", x, a)
	}
}

// Tags go from their greatest to 0.
func TestP17_1_GreatestTag(t *testing.T) {
	words := with(with(fresh(t, three), 1, tagged(2, half-1)), 10, 1)
	x, a := play(t, three, words, [][]api.Job{{alloc}}, nil, 100)
	if a[0][0] != trial.Told(2) || x.Words[1] != 3 {
		t.Error("an Alloc", x, a)
	}
	x, a = play(t, three, words, [][]api.Job{{back(1)}}, nil, 100)
	if a[0][0] != trial.Told(1) || x.Words[1] != 1 || x.Words[11] != 2 {
		t.Error("a Back", x, a)
	}
}

// Words by hand, between the steps of a task that is driven alone.
func TestP17_1_DrivenAlone(t *testing.T) {
	words := memory(three, tagged(1, 7), cell{8 * half, tagged(2, 9)}, cell{0, 3}, cell{0, 0})
	for _, hand := range append(trial.Ends(), 0, 7, 8, 99) {
		// The link and the head go by what stands there when they are loaded.
		steps, told, behind := trial.Drive(t, room.Make(three, hand, false, 0), words, map[int]trial.Put{1: {11, 3}, 2: {11, 0}, 3: {10, 9*half + 6}, 4: {10, 1}})
		want := []api.Step{
			trial.Load(hand, 1, words[1]), trial.Load(hand, 11, 3), trial.CAS(hand, 1, words[1], tagged(3, 8)),
			trial.Load(hand, 10, 9*half+6), trial.Store(hand, 10, 1, 9*half+1), trial.Add(hand, 4, 1004, 1005),
		}
		if !slices.Equal(steps, want) || told != trial.Told(9*half+1) || behind[10] != 9*half+1 || behind[11] != 0 {
			t.Error("another link and head", hand, steps, told)
		}
		// Free shows another object; then the same tag with another one; then none.
		steps, told, behind = trial.Drive(t, room.Make(three, hand, false, 0), words, map[int]trial.Put{2: {1, tagged(2, 8)}, 5: {1, tagged(3, 8)}, 8: {1, tagged(0, 8)}})
		want = []api.Step{
			trial.Load(hand, 1, words[1]), trial.Load(hand, 11, words[11]), trial.Lost(hand, 1, tagged(2, 8)),
			trial.Load(hand, 1, tagged(2, 8)), trial.Load(hand, 16, 3), trial.Lost(hand, 1, tagged(3, 8)),
			trial.Load(hand, 1, tagged(3, 8)), trial.Load(hand, 21, 0), trial.Lost(hand, 1, tagged(0, 8)),
			trial.Load(hand, 1, tagged(0, 8)),
		}
		if !slices.Equal(steps, want) || told != (api.Answer{}) || !slices.Equal(behind, with(words, 1, tagged(0, 8))) {
			t.Error("other lists", hand, steps, told)
		}
		// A Back: slots that are filled behind it stay; the head goes by what was loaded; Free by what stands there.
		amid := map[int]trial.Put{0: {10, 5*half + 3}, 2: {13, 77}, 3: {10, 6*half + 1}, 4: {1, tagged(3, 2)}, 6: {1, tagged(2, 2)}}
		steps, told, behind = trial.Drive(t, room.Give(three, hand, 1), words, amid)
		want = []api.Step{
			trial.Store(hand, 13, 1013, 0), trial.Store(hand, 14, 1014, 0), trial.Load(hand, 10, 5*half+3), trial.Store(hand, 10, 6*half+1, 6*half),
			trial.Load(hand, 1, tagged(3, 2)), trial.Store(hand, 11, words[11], 3), trial.Lost(hand, 1, tagged(2, 2)),
			trial.Load(hand, 1, tagged(2, 2)), trial.Store(hand, 11, 3, 2), trial.CAS(hand, 1, tagged(2, 2), tagged(1, 3)),
			trial.Add(hand, 5, 1005, 1006),
		}
		if !slices.Equal(steps, want) || told != trial.Told(1) || behind[13] != 77 || behind[14] != 0 {
			t.Error("a Back", hand, steps, told)
		}
		// The last generation is that of the load.
		steps, _, behind = trial.Drive(t, room.Give(three, hand, 1), words, map[int]trial.Put{2: {10, (half - 1) * half}, 3: {10, 1}})
		if len(steps) != 5 || behind[10] != (half-1)*half || behind[1] != words[1] {
			t.Error("the last generation", hand, steps)
		}
		steps, _, behind = trial.Drive(t, room.Give(three, hand, 1), words, map[int]trial.Put{2: {10, 0}, 3: {10, (half - 1) * half}})
		if len(steps) != 8 || behind[10] != half || behind[1] != tagged(1, 8) {
			t.Error("the last generation, behind the load", hand, steps)
		}
	}
}

// A task alone, by hands of any number, on memories by hand: shorter than the shape's, longer, and none at all.
func TestP17_1_TaskAlone(t *testing.T) {
	from := trial.Source(1)
	for _, hand := range append(trial.Ends(), 0, 1, 7, 8, 9, 1<<32) {
		for range 60 {
			sh := from.SmallShape()
			long := append(anyWords(&from, sh), from.Words(sh)...)
			words := long[:from.Below(len(long)+1)]
			if from.Below(3) == 0 {
				words = long[:trial.HeadAt(sh, sh.Objects)+from.Below(4+sh.Slots)] // the last object lacks words
			}
			for _, j := range append(slices.Concat(anyJobs(&from, sh, 1, 5)...), allocOf(1, from.End()), back(from.End()), back(sh.Objects)) {
				rooms.HoldTask(t, sh, hand, j, words, 30)
				rooms.HoldTask(t, sh, hand, j, nil, 30)
			}
		}
	}
}

// The same with acts of others amid it, at the words that it looks at and at any others.
func TestP17_1_TaskAmidOthers(t *testing.T) {
	from := trial.Source(2)
	for range 20000 {
		sh := from.SmallShape()
		words := anyWords(&from, sh)
		jobs := slices.Concat(anyJobs(&from, sh, 1, 2)...)
		if len(jobs) == 0 {
			continue
		}
		number := 1 + from.Below(sh.Objects)
		rooms.HoldTaskAmid(t, sh, from.End(), jobs[0], words, 60, func(i int) []api.Step {
			if i > 25 || from.Below(3) > 0 {
				return nil
			}
			at := []int{api.Free, api.Free, trial.HeadAt(sh, number), trial.LinkAt(sh, number), api.Allocated, api.Freed, from.Below(len(words))}[from.Below(7)]
			put := []uint64{half, 1, 2, (half - 1) * half, from.One(sh)}[from.Below(5)]
			return []api.Step{{Act: []int{api.Add, api.Add, api.Store}[from.Below(3)], At: at, Put: put}}
		})
	}
}

// Jobs of several hands in every order of their steps, from fresh words, from words that are lists and from words that are none.
func TestP17_1_EveryOrder(t *testing.T) {
	for _, hands := range [][][]api.Job{
		{{alloc}, {alloc}},
		{{alloc}, {back(1)}},
		{{back(1)}, {back(1)}},
		{{back(1)}, {back(2)}},
		{{alloc, alloc}, {alloc}},
		{{alloc, back(1)}, {alloc}},
		{{alloc}, {alloc}, {back(2)}},
		{{back(2), alloc}, {back(2)}},
		{{allocOf(1, 1)}, {back(1), allocOf(1, 0)}},
	} {
		for _, words := range [][]uint64{
			fresh(t, bare),
			memory(bare, tagged(2, half-1), cell{1, 0}, cell{5 * half, 0}),
			memory(bare, tagged(0, half-2), cell{3, tagged(2, 6)}, cell{(half - 1) * half, 3}),
			memory(bare, tagged(1, 5), cell{1, 1}, cell{half, 1}), // 1 shows itself
			memory(bare, tagged(7, 5), cell{(half-1)*half + 1, 1}, cell{half + 1, 2}),
		} {
			everyOrder(t, bare, words, hands, func(schedule []int) {
				play(t, bare, words, hands, schedule, len(schedule))
			})
		}
	}
}

// All schedules of the first steps; behind them the hands take turns.
func TestP17_1_EverySchedule(t *testing.T) {
	words := memory(three, tagged(2, half-2), cell{1, 9}, cell{0, 3}, cell{0, 0})
	for _, hands := range [][][]api.Job{
		{{alloc, alloc}, {back(1), alloc}},
		{{back(1), back(2)}, {alloc, alloc, alloc}},
	} {
		for schedule := range trial.Lists(2, 12) {
			play(t, three, words, hands, schedule, 100)
		}
	}
	for schedule := range trial.Lists(3, 8) {
		play(t, three, words, [][]api.Job{{alloc}, {back(1), allocOf(1, 1)}, {alloc, back(2)}}, schedule, 100)
	}
}
