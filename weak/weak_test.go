package weak_test

import (
	"math"
	"slices"
	"testing"

	"midden/api"
	"midden/shade"
	"midden/shape"
	"midden/trial"
	"midden/turn"
	"midden/weak"
)

// holdOne fails, if a job of this hand alone doesn't give just these steps, this answer and these words.
func holdOne(t *testing.T, sh api.Shape, hand int, j api.Job, words []uint64, steps []api.Step, answer api.Answer, after []uint64) {
	t.Helper()
	hands := make([][]api.Job, hand+1)
	answers := make([][]api.Answer, hand+1)
	hands[hand], answers[hand] = []api.Job{j}, []api.Answer{answer}
	weaks.HoldSteps(t, sh, words, hands, nil, steps, answers, after)
	play(t, sh, words, hands, nil, 100)
}

func TestP19_1_Examples(t *testing.T) {
	one := api.Shape{Objects: 1, Hands: 1, Roots: 1, Weaks: 1} // the weak word is word 10, the head 11
	words := puts(trial.Memory(one, api.Grey, 0, cell{1, 0}), 10, 1)
	empty := with(words, 10, 0)
	look := trial.Load(0, 10, 1)
	holdOne(t, one, 0, see(0, api.Idle, 1), words, []api.Step{look}, told(1), words)
	holdOne(t, one, 0, see(0, api.Mark, 1), words, []api.Step{
		look, trial.Load(0, 11, 1), trial.CAS(0, 11, 1, 3), trial.Load(0, 2, 0), trial.Store(0, 12, 0, 0), trial.CAS(0, 2, 0, half+1),
	}, told(1), puts(words, 11, 3, 2, half+1))
	holdOne(t, one, 0, see(0, api.Close, 1), words, []api.Step{look, trial.Load(0, 11, 1)}, again, words)
	holdOne(t, one, 0, see(0, api.Close, 0), words, []api.Step{look, trial.Load(0, 11, 1), look}, told(1), words)
	for phase := range 5 {
		for colour := range 2 {
			holdOne(t, one, 0, see(0, phase, colour), empty, []api.Step{trial.Load(0, 10, 0)}, told(0), empty)
		}
	}
	holdOne(t, one, 0, set(0, 0), words, []api.Step{trial.Store(0, 10, 1, 0)}, told(0), empty)
	if weak.Make != 1 || weak.See != 2 {
		t.Error("the kinds", weak.Make, weak.See)
	}
}

// Each way of a See: the weak word shows a white object, one that has the colour, one of another generation or out of use, one that
// isn't there, or a generation alone; in each phase, with each colour.
func TestP19_1_EachWay(t *testing.T) {
	words := memory(tagged(3, half-1), cell{4*half + 1, 7}, cell{9*half + 0xffff00ff, 8}, cell{2, 0})
	handles := []uint64{
		0, tagged(1, 4), tagged(2, 9), tagged(1, 3), tagged(1, 5), tagged(2, half-1), tagged(3, 0), tagged(4, 0), tagged(0, 4), math.MaxUint64,
	}
	ways := map[int]int{}
	for _, h := range handles {
		for number := range 3 {
			at := 12 + number
			is := with(words, at, h)
			for hand := range api.MaxHands {
				for phase := range 5 {
					for colour := range 2 {
						steps, answer, after := []api.Step{trial.Load(hand, at, h)}, told(h), is
						head := trial.HeadAt(three, trial.Number(h))
						switch {
						case h != 0 && (phase == api.Arm || phase == api.Mark):
							var marked []api.Step
							marked, after = trial.Shading(three, is, hand, h, colour)
							steps = append(steps, marked...)
						case h != 0 && phase == api.Close && head < 0:
							steps = append(steps, trial.Load(hand, -1, 0), trial.Load(hand, at, h))
						case h != 0 && phase == api.Close && trial.White(is[head], trial.Upper(h), colour):
							steps, answer = append(steps, trial.Load(hand, head, is[head])), again
						case h != 0 && phase == api.Close:
							steps = append(steps, trial.Load(hand, head, is[head]), trial.Load(hand, at, h))
						}
						holdOne(t, three, hand, see(number, phase, colour), is, steps, answer, after)
						ways[10*phase+len(steps)]++
					}
				}
			}
		}
	}
	for _, way := range []int{1, 11, 12, 16, 21, 22, 26, 31, 32, 33, 41} {
		if ways[way] == 0 {
			t.Error("a way that isn't gone:", way, ways)
		}
	}
	if len(ways) != 11 {
		t.Error(ways)
	}
}

// A Make stores what it is handed, whatever that is and whatever stood there.
func TestP19_1_Make(t *testing.T) {
	words := memory(tagged(3, 5), cell{1, 7}, cell{3, 8}, cell{0, 0})
	for _, h := range append(trial.Values(), tagged(1, 0), tagged(2, 1), 1234567) {
		for _, old := range append(trial.Values(), h) {
			for number := range 3 {
				at := 12 + number
				is := with(words, at, old)
				holdOne(t, three, 1, set(number, h), is, []api.Step{trial.Store(1, at, old, h)}, told(h), with(is, at, h))
				holdOne(t, three, 7, set(number, h), is, []api.Step{trial.Store(7, at, old, h)}, told(h), with(is, at, h))
			}
		}
	}
}

// Each weak word of each shape is a word of its own.
func TestP19_1_EachPlace(t *testing.T) {
	for _, sh := range trial.RightShapes() {
		words := trial.Memory(sh, api.Grey, 0)
		seen := map[int]int{}
		for number := range sh.Weaks {
			at := trial.WeakAt(sh, number)
			if name, _ := shape.Name(sh, at); name[:4] != "weak" {
				t.Fatal(sh, number, name)
			}
			seen[at]++
			hand := number % api.MaxHands
			is := with(words, at, 5*half)
			holdOne(t, sh, hand, set(number, 6*half), is, []api.Step{trial.Store(hand, at, 5*half, 6*half)}, told(6*half), with(is, at, 6*half))
			holdOne(t, sh, hand, see(number, api.Sweep, 0), is, []api.Step{trial.Load(hand, at, 5*half)}, told(5*half), is)
			holdOne(t, sh, hand, see(number, api.Arm, 0), is, []api.Step{trial.Load(hand, at, 5*half), trial.Load(hand, -1, 0)}, told(5*half), is)
			holdOne(t, sh, hand, see(number, api.Close, 0), is, []api.Step{
				trial.Load(hand, at, 5*half), trial.Load(hand, -1, 0), trial.Load(hand, at, 5*half),
			}, told(5*half), is)
		}
		if len(seen) != sh.Weaks {
			t.Error(sh, len(seen))
		}
	}
}

// Each object's head is looked at where it stands, and of the handle of no other one.
func TestP19_1_EachObject(t *testing.T) {
	sh := api.Shape{Objects: api.MaxObjects, Slots: 2, Hands: 3, Roots: 2, Weaks: 2}
	for number := 1; number <= sh.Objects; number++ {
		h, at := tagged(number, 6), trial.HeadAt(sh, number)
		words := puts(trial.Memory(sh, api.Grey, tagged(0, 4)), uint64(trial.WeakAt(sh, 1)), h, uint64(at), 6*half+3, uint64(at+1), 9)
		look := trial.Load(2, trial.WeakAt(sh, 1), h)
		holdOne(t, sh, 2, see(1, api.Close, 0), words, []api.Step{look, trial.Load(2, at, 6*half+3)}, again, words)
		holdOne(t, sh, 2, see(1, api.Close, 1), words, []api.Step{look, trial.Load(2, at, 6*half+3), look}, told(h), words)
		marked, after := trial.Shading(sh, words, 2, h, 0)
		if len(marked) != 5 {
			t.Fatal(number, marked)
		}
		holdOne(t, sh, 2, see(1, api.Arm, 0), words, append([]api.Step{look}, marked...), told(h), after)
	}
}

// A weak word that the shape doesn't have: it is loaded as a 0, and nothing is stored; but the answers are the same.
func TestP19_1_NoSuchWord(t *testing.T) {
	words := puts(memory(0, cell{1, 7}, cell{1, 8}, cell{3, 0}), 12, 1, 13, 1, 14, 1)
	bare := api.Shape{Objects: 3, Slots: 1, Hands: 2, Roots: 1}
	for _, hand := range append(trial.Ends(), 0, 1, 2, 9) {
		for _, number := range append(trial.Ends(), -3, 3, 4, 15, 16, 1<<32, 1<<32+1, 1<<62) {
			for _, h := range append(trial.Values(), 9) {
				for _, sh := range []api.Shape{three, bare} {
					steps, a, after := trial.Drive(t, weak.Set(sh, hand, number, h), words, nil)
					if !slices.Equal(steps, []api.Step{trial.Store(hand, -1, 0, 0)}) || a != told(h) || !slices.Equal(after, words) {
						t.Error("Set", hand, number, h, steps, a)
					}
				}
			}
			for phase := range 5 {
				steps, a, after := trial.Drive(t, weak.Get(three, hand, number, phase, 1), words, nil)
				if !slices.Equal(steps, []api.Step{trial.Load(hand, -1, 0)}) || a != told(0) || !slices.Equal(after, words) {
					t.Error("Get", hand, number, phase, steps, a)
				}
			}
		}
		if steps, _, _ := trial.Drive(t, weak.Get(bare, hand, 0, api.Mark, 1), words, nil); !slices.Equal(steps, []api.Step{trial.Load(hand, -1, 0)}) {
			t.Error("no weak words", steps)
		}
	}
}

// A shape that is none: nothing is promised of it but that there is an end.
func TestP19_1_NoShape(t *testing.T) {
	words := puts(memory(0, cell{1, 0}, cell{1, 0}, cell{1, 0}), 12, 1)
	for i, sh := range trial.WrongShapes() {
		for _, k := range []turn.Task{weak.Set(sh, i%11-2, 0, 1), weak.Get(sh, i%11-2, 0, i%5, i)} {
			trial.Drive(t, k, words, nil)
		}
	}
}

// A phase that is none is like Idle and Sweep.
func TestP19_1_Phases(t *testing.T) {
	words := puts(memory(0, cell{1, 7}, cell{1, 8}, cell{1, 9}), 13, 2)
	for _, phase := range append(trial.Ends(), 0, 4, 5, 6, 7, 8, 9, 10, 11, -3, 1<<32+1, 1<<32+2, 1<<32+3, 257, 258, 259) {
		for colour := range 2 {
			steps, a, after := trial.Drive(t, weak.Get(three, 4, 1, phase, colour), words, nil)
			if !slices.Equal(steps, []api.Step{trial.Load(4, 13, 2)}) || a != told(2) || !slices.Equal(after, words) {
				t.Error(phase, colour, steps, a)
			}
		}
	}
}

// Of a colour the last bit counts.
func TestP19_1_Colours(t *testing.T) {
	for _, colour := range append(trial.Ends(), 0, 1, 2, 3, 4, 5, -3, -4, 1<<32, 1<<32+1, 255, 256) {
		for own := range uint64(2) {
			words := puts(memory(0, cell{2*own + 1, 0}, cell{}, cell{}), 12, 1)
			steps, head, marks, answer := 3, 2*own+1, 2, told(1)
			if isOdd := colour%2 != 0; isOdd != (own == 1) {
				steps, head, marks, answer = 2, 3-2*own, 6, again
			}
			made, a, after := trial.Drive(t, weak.Get(three, 0, 0, api.Close, colour), words, nil)
			if len(made) != steps || a != answer || !slices.Equal(after, words) {
				t.Error("Close", colour, own, made, a)
			}
			for _, phase := range []int{api.Arm, api.Mark} {
				made, a, after := trial.Drive(t, weak.Get(three, 0, 0, phase, colour), words, nil)
				if len(made) != marks || a != told(1) || after[15] != head {
					t.Error(phase, colour, own, made, a)
				}
			}
		}
	}
}

// In Close the weak word, or the object, is another one by then.
func TestP19_1_ChangedAmid(t *testing.T) {
	const hand = 5
	words := puts(memory(0, cell{3, 7}, cell{1, 8}, cell{3, 9}), 12, 1)
	first, head := trial.Load(hand, 12, 1), trial.Load(hand, 15, 3)
	for _, c := range []struct {
		name  string
		amid  map[int]trial.Put
		steps []api.Step
		want  api.Answer
	}{
		{"nothing", nil, []api.Step{first, head, first}, told(1)},
		{"wiped ahead of all", map[int]trial.Put{0: {12, 0}}, []api.Step{trial.Load(hand, 12, 0)}, told(0)},
		{"wiped ahead of the head", map[int]trial.Put{1: {12, 0}}, []api.Step{first, head, trial.Load(hand, 12, 0)}, again},
		{"wiped behind the head", map[int]trial.Put{2: {12, 0}}, []api.Step{first, head, trial.Load(hand, 12, 0)}, again},
		{"another one's, which is white", map[int]trial.Put{1: {12, 2}}, []api.Step{first, head, trial.Load(hand, 12, 2)}, again},
		{"another one's, which isn't", map[int]trial.Put{2: {12, 3}}, []api.Step{first, head, trial.Load(hand, 12, 3)}, again},
		{"another generation's", map[int]trial.Put{1: {12, half + 1}}, []api.Step{first, head, trial.Load(hand, 12, half+1)}, again},
		{"wiped, and set again", map[int]trial.Put{1: {12, 0}, 2: {12, 1}}, []api.Step{first, head, first}, told(1)},
		{"white by then", map[int]trial.Put{1: {15, 1}}, []api.Step{first, trial.Load(hand, 15, 1)}, again},
		{"white behind that", map[int]trial.Put{2: {15, 1}}, []api.Step{first, head, first}, told(1)},
		{"given back by then", map[int]trial.Put{1: {15, half}}, []api.Step{first, trial.Load(hand, 15, half), first}, told(1)},
		{"made again by then", map[int]trial.Put{1: {15, half + 1}}, []api.Step{first, trial.Load(hand, 15, half+1), first}, told(1)},
	} {
		steps, a, after := trial.Drive(t, weak.Get(three, hand, 0, api.Close, 1), words, c.amid)
		is := slices.Clone(words)
		for _, p := range c.amid {
			is[p[0]] = p[1]
		}
		if p, isTwice := c.amid[2]; isTwice {
			is[p[0]] = p[1]
		}
		if !slices.Equal(steps, c.steps) || a != c.want || !slices.Equal(after, is) {
			t.Errorf("%s: %v %v; want %v %v", c.name, steps, a, c.steps, c.want)
		}
	}
}

// What the chapter looks twice for: the collector wipes the weak word of a white object, and turns its colour for a finalizer. No
// order of these acts amid a See has it tell what was wiped.
func TestP19_1_WipedAndTurned(t *testing.T) {
	words := puts(memory(0, cell{1, 7}, cell{1, 8}, cell{1, 9}), 12, 1)
	wipe := api.Step{Act: api.CAS, At: 12, Had: 1, Put: 0}
	paint := api.Step{Act: api.CAS, At: 15, Had: 1, Put: 3}
	for first := range 4 {
		for second := first; second < 4; second++ {
			amid := func(i int) []api.Step {
				var out []api.Step
				if i == first {
					out = append(out, wipe)
				}
				if i == second {
					out = append(out, paint)
				}
				return out
			}
			weaks.HoldTaskAmid(t, three, 0, see(0, api.Close, 1), words, 10, amid)
			if second != first {
				acts := map[int]trial.Put{first: {12, 0}, second: {15, 3}}
				steps, a, _ := trial.Drive(t, weak.Get(three, 0, 0, api.Close, 1), words, acts)
				if want := first == 0; a.OK != want || a.OK && a.Val != 0 || !a.OK && a != again {
					t.Error(first, second, steps, a)
				}
			}
		}
	}
}

// In Arm and Mark the weak word isn't looked at again; what it showed is shaded and told, whatever stands there by then.
func TestP19_1_MarkAmidOthers(t *testing.T) {
	const hand = 6
	words := puts(memory(tagged(3, 1), cell{4*half + 1, 7}, cell{1, 8}, cell{3, 0}), 12, tagged(1, 4))
	h := tagged(1, 4)
	for ahead := 1; ahead < 6; ahead++ {
		steps, a, after := trial.Drive(t, weak.Get(three, hand, 0, api.Arm, 1), words, map[int]trial.Put{ahead: {12, 2}})
		if len(steps) != 6 || a != told(h) || !slices.Equal(after, puts(words, 12, 2, 15, 4*half+3, 16, 3, 2, tagged(1, 2))) {
			t.Error(ahead, steps, a)
		}
	}
	// Another one turns the colour, ahead of the CAS.
	steps, a, after := trial.Drive(t, weak.Get(three, hand, 0, api.Mark, 1), words, map[int]trial.Put{2: {15, 4*half + 3}})
	if !slices.Equal(steps, []api.Step{
		trial.Load(hand, 12, h), trial.Load(hand, 15, 4*half+1), trial.Lost(hand, 15, 4*half+3), trial.Load(hand, 15, 4*half+3),
	}) || a != told(h) || after[2] != tagged(3, 1) {
		t.Error("a head", steps, a)
	}
	// Another one makes the object older: the CAS is tried again.
	steps, a, after = trial.Drive(t, weak.Get(three, hand, 0, api.Mark, 1), words, map[int]trial.Put{2: {15, 4*half + 257}})
	if len(steps) != 8 || a != told(h) || after[15] != 4*half+259 {
		t.Error("an age", steps, a)
	}
	// Another one puts an object on the list, ahead of the CAS of Grey.
	steps, a, after = trial.Drive(t, weak.Get(three, hand, 0, api.Mark, 1), words, map[int]trial.Put{5: {2, tagged(2, 2)}})
	if len(steps) != 9 || steps[5] != trial.Lost(hand, 2, tagged(2, 2)) || a != told(h) || after[2] != tagged(1, 3) || after[16] != 2 {
		t.Error("Grey", steps, a)
	}
	// The object is given back between the two loads: there is nothing to shade, and its handle is told all the same.
	steps, a, after = trial.Drive(t, weak.Get(three, hand, 0, api.Mark, 1), words, map[int]trial.Put{1: {15, 5 * half}})
	if len(steps) != 2 || a != told(h) || after[15] != 5*half {
		t.Error("given back", steps, a)
	}
}

// Two hands at one weak word: both shade its object, and one of them has turned its colour; a third one has set the word since then.
func TestP19_1_TwoAtOneWord(t *testing.T) {
	words := puts(memory(0, cell{1, 7}, cell{1, 8}, cell{1, 9}), 12, 2)
	hands := [][]api.Job{{see(0, api.Mark, 1)}, {see(0, api.Arm, 1), see(0, api.Close, 1)}, {set(0, 3)}}
	steps := []api.Step{
		trial.Load(0, 12, 2), trial.Load(1, 12, 2), trial.Load(1, 19, 1), trial.Load(0, 19, 1), trial.CAS(0, 19, 1, 3), trial.Lost(1, 19, 3),
		trial.Load(1, 19, 3), trial.Load(1, 12, 2), trial.Store(2, 12, 2, 3), trial.Load(1, 19, 3), trial.Load(1, 12, 3),
		trial.Load(0, 2, 0), trial.Store(0, 20, 8, 0), trial.CAS(0, 2, 0, tagged(2, 1)),
	}
	weaks.HoldSteps(t, three, words, hands, []int{0, 1, 1, 0, 0, 1, 1, 1, 2, 1, 1}, steps,
		[][]api.Answer{{told(2)}, {told(2), again}, {told(3)}}, puts(words, 12, 3, 19, 3, 20, 0, 2, tagged(2, 1)))
}

// What was put on the list is pulled off it by the layer below; and what that layer has shaded, is seen so.
func TestP19_1_WithTheLayerBelow(t *testing.T) {
	words := puts(memory(0, cell{1, 7}, cell{1, 8}, cell{1, 9}), 12, 2, 13, 3, 14, 2)
	x, a := play(t, three, words, [][]api.Job{{see(0, api.Mark, 1), see(1, api.Arm, 1), see(2, api.Mark, 1)}}, nil, 100)
	if !slices.Equal(a[0], []api.Answer{told(2), told(3), told(2)}) {
		t.Error(a)
	}
	next, by := api.Job{Kind: shade.Next}, api.Job{Kind: shade.Shade, H: 1, C: 1}
	y, a, e := shade.Play(three, x.Words, [][]api.Job{{next, next, next, by}}, nil, 100)
	if want := []api.Answer{told(3), told(2), {}, told(1)}; e != api.OK || !slices.Equal(a[0], want) {
		t.Error(a, e)
	}
	_, a = play(t, three, y.Words, [][]api.Job{{set(0, 1), see(0, api.Close, 1), see(1, api.Close, 1), see(1, api.Close, 0)}}, nil, 100)
	if !slices.Equal(a[0], []api.Answer{told(1), told(1), told(3), again}) {
		t.Error(a)
	}
}

// A task alone, by hands of any number, on memories by hand: shorter than the shape's, longer, and none at all.
func TestP19_1_TaskAlone(t *testing.T) {
	from := trial.Source(1)
	for _, hand := range append(trial.Ends(), 0, 1, 2, 7, 8, 9, 1<<32) {
		for range 60 {
			sh := anyShape(&from)
			long := append(anyWords(&from, sh), from.Words(sh)...)
			words := long[:from.Below(len(long)+1)]
			if from.Below(3) == 0 {
				words = long[:trial.HeadAt(sh, sh.Objects)+from.Below(3+sh.Slots)] // some of the last object's words are none
			}
			for _, j := range slices.Concat(anyJobs(&from, sh, long, append(trial.Ends(), 0, 1, 2, 3, 4), 1, 5)...) {
				weaks.HoldTask(t, sh, hand, j, words, 40)
				weaks.HoldTask(t, sh, hand, j, nil, 40)
				j.B, j.C = []int{j.B, from.End(), sh.Weaks}[from.Below(3)], []int{j.C, from.End(), 5, 6}[from.Below(4)]
				weaks.HoldTask(t, sh, hand, j, words, 40)
			}
		}
	}
}

// The same with acts of others amid it, at the words that it looks at and at any others.
func TestP19_1_TaskAmidOthers(t *testing.T) {
	from := trial.Source(2)
	for range 15000 {
		sh := anyShape(&from)
		words := anyWords(&from, sh)
		jobs := slices.Concat(anyJobs(&from, sh, words, both, 1, 2)...)
		if len(jobs) == 0 {
			continue
		}
		own := trial.WeakAt(sh, jobs[0].B)
		objects := objectsIn(sh, words)
		weaks.HoldTaskAmid(t, sh, 0, jobs[0], words, 60, func(i int) []api.Step {
			if i > 30 || from.Below(3) > 0 {
				return nil
			}
			number := 1 + from.Below(sh.Objects)
			at := []int{api.Grey, own, trial.HeadAt(sh, number), trial.HeadAt(sh, trial.Number(words[own])), trial.LinkAt(sh, number), from.Below(len(words))}[from.Below(6)]
			put := []uint64{half, 1, 2, 256, from.One(sh), from.Handle(objects)}[from.Below(6)]
			return []api.Step{{Act: []int{api.Add, api.Add, api.Store}[from.Below(3)], At: at, Put: put}}
		})
	}
}

// Jobs of several hands in every order of their steps, from words whose grey list is one and from words whose isn't.
func TestP19_1_EveryOrder(t *testing.T) {
	for _, hands := range [][][]api.Job{
		{{see(0, api.Mark, 1)}, {see(0, api.Arm, 1)}},
		{{see(0, api.Mark, 1)}, {see(0, api.Mark, 0)}},
		{{see(0, api.Close, 1)}, {see(1, api.Mark, 1)}, {set(0, 0)}},
		{{see(0, api.Close, 1), see(0, api.Close, 0)}, {set(0, 2), set(0, 1), set(0, 3)}},
		{{see(0, api.Close, 0)}, {set(0, 0), see(1, api.Arm, 1)}, {see(0, api.Idle, 0), see(0, api.Sweep, 1)}},
		{{see(2, api.Arm, 0), set(1, 1)}, {see(1, api.Mark, 1), set(2, 0)}},
	} {
		for _, words := range [][]uint64{
			puts(memory(0, cell{1, 0}, cell{1, 0}, cell{1, 0}), 12, 1, 13, 1, 14, 2),
			puts(memory(tagged(3, half-1), cell{1, 0}, cell{3, 0}, cell{3, 0}), 12, 2, 13, 1, 14, 3),
			puts(memory(tagged(1, 5), cell{1, 1}, cell{half + 1, 2}, cell{1, 9}), 12, half+2, 13, 2, 14, 9), // 1 shows itself
		} {
			everyOrder(t, three, words, hands, func(schedule []int) {
				play(t, three, words, hands, schedule, len(schedule))
			})
		}
	}
}

// All schedules of the first steps; behind them the hands take turns.
func TestP19_1_EverySchedule(t *testing.T) {
	words := puts(memory(tagged(3, half-2), cell{1, 9}, cell{1, 9}, cell{3, 0}), 12, 1, 13, 2, 14, 1)
	for _, hands := range [][][]api.Job{
		{{see(0, api.Mark, 1), see(0, api.Close, 1)}, {see(2, api.Arm, 1), set(0, 2)}},
		{{see(0, api.Close, 1), see(1, api.Close, 0), set(1, 3)}, {set(0, 2), see(1, api.Mark, 1), see(0, api.Mark, 0)}},
	} {
		for schedule := range trial.Lists(2, 12) {
			play(t, three, words, hands, schedule, 100)
		}
	}
	for schedule := range trial.Lists(3, 8) {
		play(t, three, words, [][]api.Job{{see(0, api.Close, 1), see(0, api.Close, 1)}, {see(2, api.Mark, 1)}, {set(0, 2), set(0, 1)}}, schedule, 100)
	}
}
