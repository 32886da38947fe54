package trial_test

import (
	"slices"
	"testing"

	"midden/api"
	"midden/good"
	"midden/shape"
	"midden/trial"
)

func sampleView() api.View {
	return api.View{
		Phase: 1, Colour: 1, Round: 2, Acks: []uint64{3, 4}, Roots: [][]uint64{{5}, {6}}, Weaks: []uint64{7},
		Objects: []api.Object{{Used: true, Age: 8, Gen: 9, Link: 10, Next: 11, Slots: []uint64{12}}, {Live: true, Final: true, Taken: true, Slots: []uint64{13}}},
		Free:    []int{1}, Grey: []int{2, 1}, Queue: []int{2}, Counts: [4]uint64{14, 15, 16, 17},
	}
}

// Each part of a view counts, when two are held against each other.
func TestSameView(t *testing.T) {
	v := sampleView()
	for i, turn := range []func(v *api.View){
		func(v *api.View) { v.Phase++ }, func(v *api.View) { v.Colour++ }, func(v *api.View) { v.Round++ }, func(v *api.View) { v.Counts[3]++ },
		func(v *api.View) { v.Acks[1]++ }, func(v *api.View) { v.Acks = v.Acks[:1] }, func(v *api.View) { v.Roots[1][0]++ }, func(v *api.View) { v.Roots = v.Roots[:1] },
		func(v *api.View) { v.Roots[0] = nil }, func(v *api.View) { v.Roots = append(v.Roots, nil) }, func(v *api.View) { v.Weaks[0]++ }, func(v *api.View) { v.Weaks = nil },
		func(v *api.View) { v.Objects = v.Objects[:1] }, func(v *api.View) { v.Objects[1].Slots[0]++ }, func(v *api.View) { v.Objects[1].Slots = nil },
		func(v *api.View) { v.Objects[0].Used = false }, func(v *api.View) { v.Objects[0].Live = true }, func(v *api.View) { v.Objects[0].Final = true },
		func(v *api.View) { v.Objects[0].Taken = true }, func(v *api.View) { v.Objects[0].Age++ }, func(v *api.View) { v.Objects[0].Gen++ },
		func(v *api.View) { v.Objects[0].Link++ }, func(v *api.View) { v.Objects[0].Next++ },
		func(v *api.View) { v.Free[0]++ }, func(v *api.View) { v.Grey = v.Grey[:1] }, func(v *api.View) { v.Queue = nil },
		func(v *api.View) { v.Roots, v.Objects = append(v.Roots, v.Objects[0].Slots), v.Objects[1:] },
	} {
		other := trial.RoomyView(v)
		if !trial.SameView(v, other) || !trial.SameView(other, v) {
			t.Fatal("the same view is another one")
		}
		if turn(&other); trial.SameView(v, other) || trial.SameView(other, v) {
			t.Errorf("number %d isn't seen", i)
		}
	}
	if !trial.SameView(api.View{}, api.View{Acks: []uint64{}, Roots: [][]uint64{}, Weaks: []uint64{}, Objects: []api.Object{}, Free: []int{}, Grey: []int{}, Queue: []int{}}) {
		t.Error("an empty list isn't nil")
	}
}

// What is written into the spare room of a list is seen.
func TestWholeView(t *testing.T) {
	v := sampleView()
	for i, turn := range []func(v *api.View){
		func(v *api.View) { _ = append(v.Acks, 1) }, func(v *api.View) { _ = append(v.Weaks, 1) }, func(v *api.View) { _ = append(v.Free, 1) },
		func(v *api.View) { _ = append(v.Grey, 1) }, func(v *api.View) { _ = append(v.Queue, 1) }, func(v *api.View) { _ = append(v.Roots, []uint64{1}) },
		func(v *api.View) { _ = append(v.Roots[1], 1) }, func(v *api.View) { _ = append(v.Objects, api.Object{}) }, func(v *api.View) { _ = append(v.Objects[1].Slots, 1) },
	} {
		given, held := trial.RoomyView(v), trial.RoomyView(v)
		turn(&given)
		if trial.SameView(trial.WholeView(given), trial.WholeView(held)) || !trial.SameView(given, held) {
			t.Errorf("number %d isn't seen", i)
		}
	}
}

func TestViewsLists(t *testing.T) {
	if hears(func(t trial.T) { trial.HoldApart(t, trial.RoomyView(sampleView())) }) {
		t.Error("lists of their own")
	}
	for i, join := range []func(v *api.View){
		func(v *api.View) { v.Weaks = v.Acks[:1] }, func(v *api.View) { v.Roots[1] = v.Roots[0] }, func(v *api.View) { v.Objects[1].Slots = v.Objects[0].Slots },
		func(v *api.View) { v.Objects[0].Slots = v.Acks[1:] }, func(v *api.View) { v.Queue = v.Free }, func(v *api.View) { v.Free = v.Grey[1:] },
		func(v *api.View) { v.Weaks = v.Acks[1:]; v.Acks = v.Acks[:1] },
		func(v *api.View) {
			list := []uint64{5, 6}
			v.Roots[0], v.Roots[1] = list[:1], list[1:]
		},
	} {
		v := trial.RoomyView(sampleView())
		join(&v)
		if !hears(func(t trial.T) { trial.HoldApart(t, v) }) {
			t.Errorf("number %d: two lists share memory", i)
		}
	}
}

func TestShapes(t *testing.T) {
	from := trial.Source(1)
	for range 500 {
		if sh := from.Shape(); shape.Check(sh) != api.OK {
			t.Fatal(sh)
		}
	}
	for _, sh := range trial.RightShapes() {
		if shape.Check(sh) != api.OK || slices.Contains(trial.WrongShapes(), sh) {
			t.Error(sh)
		}
	}
	for _, sh := range trial.WrongShapes() {
		if shape.Check(sh) != api.ErrShape {
			t.Error(sh)
		}
	}
}

// The views of a source are of all kinds: of no object, of none in use, of all in use; with good handles and others, with
// generations that no handle has, with numbers of no object; and always the same ones.
func TestAnyViews(t *testing.T) {
	from, again := trial.Source(1), trial.Source(1)
	counts := map[string]int{}
	for range 2000 {
		v := from.View(6)
		if !trial.SameView(v, again.View(6)) || len(v.Objects) > 6 {
			t.Fatalf("%+v", v)
		}
		used := 0
		for _, o := range v.Objects {
			if o.Used {
				used++
			}
			if o.Gen > 1<<32-1 {
				counts["great generations"]++
			}
			for _, h := range o.Slots {
				if good.Object(v.Objects, h) > 0 {
					counts["good handles"]++
				} else {
					counts["bad handles"]++
				}
			}
		}
		switch {
		case len(v.Objects) == 0:
			counts["no object"]++
		case used == 0:
			counts["none in use"]++
		case used == len(v.Objects):
			counts["all in use"]++
		default:
			counts["some in use"]++
		}
		for _, number := range v.Queue {
			if number < 1 || number > len(v.Objects) {
				counts["numbers of no object"]++
			} else {
				counts["numbers of objects"]++
			}
		}
	}
	for _, kind := range []string{"great generations", "good handles", "bad handles", "no object", "none in use", "all in use", "some in use", "numbers of no object", "numbers of objects"} {
		if counts[kind] < 100 {
			t.Errorf("%s: %d", kind, counts[kind])
		}
	}
}
