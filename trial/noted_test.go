package trial_test

import (
	"slices"
	"testing"

	"midden/api"
	"midden/trial"
)

// Each job of a run has its own steps, and no others, and when they were made; one that has made none has none.
func TestNoted(t *testing.T) {
	sh, words := api.Shape{Room: 2}, []uint64{4, 9}
	other := api.Job{Kind: 1, A: 1, H: 7}
	hands := [][]api.Job{{add(1), other}, nil, {add(2), add(3)}}
	jobs, x, a := sound().Noted(t, sh, words, hands, []int{0, 1, 0, 1, 0, 0}, 9)
	// Hand 0's first CAS is done, and hand 2's isn't; then hand 0 does its second job, and hand 2 its first one.
	want := [][]api.Step{
		{trial.Load(0, 0, 4), trial.CAS(0, 0, 4, 5)},
		{trial.Load(0, 1, 9), trial.CAS(0, 1, 9, 16)},
		{trial.Load(2, 0, 4), trial.Lost(2, 0, 5), trial.Load(2, 0, 5), trial.CAS(2, 0, 5, 7)},
		{trial.Load(2, 0, 7)},
	}
	when := [][]int{{0, 2}, {4, 5}, {1, 3, 6, 7}, {8}}
	of := []trial.Noted{{Job: add(1)}, {Job: other, Number: 1}, {Job: add(2), Hand: 2}, {Job: add(3), Hand: 2, Number: 1}}
	if len(jobs) != 4 || len(x.Steps) != 9 || !trial.SameAnswers(a, [][]api.Answer{{trial.Told(4), trial.Told(9)}, nil, {trial.Told(5)}}) {
		t.Fatal(jobs, x, a)
	}
	for i, j := range jobs {
		isOf := j.Job == of[i].Job && j.Hand == of[i].Hand && j.Number == of[i].Number
		if !isOf || !slices.Equal(j.Steps, want[i]) || !slices.Equal(j.When, when[i]) || j.Begin() != when[i][0] || j.End() != when[i][len(when[i])-1] {
			t.Errorf("%d: %+v; want %v %v", i, *j, want[i], when[i])
		}
	}
	jobs, _, _ = sound().Noted(t, sh, words, hands, []int{1}, 1)
	if jobs[0].Begin() != -1 || jobs[0].End() != -1 || jobs[2].Begin() != 0 || jobs[2].End() != 0 {
		t.Error(jobs[0], jobs[2])
	}
}

// A Play that makes another run than its tasks is heard.
func TestNotedHears(t *testing.T) {
	l := sound()
	l.Play = func(sh api.Shape, words []uint64, hands [][]api.Job, schedule []int, most int) (api.Trace, [][]api.Answer, api.Errno) {
		return play(sh, words, hands, nil, most)
	}
	noted := func(schedule []int) bool {
		return hears(func(t trial.T) {
			l.Noted(t, api.Shape{Room: 1}, []uint64{0}, [][]api.Job{{add(1)}, {add(1)}}, schedule, 9)
		})
	}
	if noted(nil) || !noted([]int{1}) {
		t.Error(noted(nil), noted([]int{1}))
	}
	wrong := func(t trial.T) {
		sound().Noted(t, api.Shape{Room: 1}, []uint64{0}, [][]api.Job{{add(1), {Kind: 2}}}, nil, 9)
	}
	if !hears(wrong) {
		t.Error("a job that is refused is not heard")
	}
}

// A job that is taken isn't refused, and one that is refused with another error isn't either; nor is one with something beside it.
func TestIsRefused(t *testing.T) {
	sh, words := api.Shape{Room: 2}, []uint64{4, 9}
	wrong := [][]api.Job{{add(1), {Kind: 1, A: 2}}}
	l := sound()
	if !l.IsRefused(sh, words, wrong, 9, api.ErrArg) || l.IsRefused(sh, words, wrong, 9, api.ErrKind) || l.IsRefused(sh, words, wrong[:0], 9, api.OK) {
		t.Error("refused or not")
	}
	l.Play = func(sh api.Shape, words []uint64, hands [][]api.Job, schedule []int, most int) (api.Trace, [][]api.Answer, api.Errno) {
		_, _, e := play(sh, words, hands, schedule, most)
		return api.Trace{Words: words}, nil, e
	}
	if l.IsRefused(sh, words, wrong, 9, api.ErrArg) {
		t.Error("something stands beside it")
	}
}

// A schedule of streaks is longer than how many there are, and mostly goes on as it was; no colour is one.
func TestStreaks(t *testing.T) {
	from := trial.Source(6)
	list := from.Streaks(50)
	same := 0
	for i, pick := range list[1:] {
		if pick == list[i] {
			same++
		}
	}
	if len(list) < 200 || same < len(list)/2 || same > len(list)-20 {
		t.Error(len(list), same)
	}
	if none := trial.NoColours(); slices.Contains(none, 0) || slices.Contains(none, 1) || !slices.Contains(none, 2) || !slices.Contains(none, -1) {
		t.Error(none)
	}
}
