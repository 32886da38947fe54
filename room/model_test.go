package room_test

import (
	"fmt"
	"slices"
	"testing"

	"midden/api"
	"midden/room"
	"midden/shape"
	"midden/trial"
	"midden/turn"
)

var rooms = trial.Layer{Size: shape.Size, Fresh: shape.Fresh, Task: task, Play: room.Play, Table: table}

// task: a job's, made by the calls that are handed neither jobs nor errors: of any colour and of any number, too.
func task(sh api.Shape, hand int, j api.Job) (turn.Task, api.Errno) {
	if j.Kind == room.Back {
		return room.Give(sh, hand, j.A), api.OK
	}
	return room.Make(sh, hand, j.B == 1, j.C), api.OK
}

// table is the chapter's tables as plain code.
func table(sh api.Shape, _ int, j api.Job, act trial.Act) api.Answer {
	if j.Kind == room.Back {
		return trial.Giving(sh, j.A, act)
	}
	return trial.Making(sh, j.B == 1, j.C, act)
}

var alloc = api.Job{Kind: room.Alloc}

func allocOf(final, colour int) api.Job { return api.Job{Kind: room.Alloc, B: final, C: colour} }

func back(number int) api.Job { return api.Job{Kind: room.Back, A: number} }

const half = 1 << 32

// Short names for what is written down again and again.
var (
	tagged     = trial.Tagged
	tags       = trial.Tags
	farNumbers = trial.FarNumbers
	with       = trial.With
)

// Three objects with two slots each: their heads are the words 10, 15 and 20; behind each stand its link, its next and its
// slots. Two objects without slots: their heads are the words 10 and 13.
var (
	three = api.Shape{Objects: 3, Slots: 2, Hands: 1, Roots: 1}
	bare  = api.Shape{Objects: 2, Hands: 1, Roots: 1}
)

type cell = trial.Cell

// memory: with these objects and this word Free.
func memory(sh api.Shape, free uint64, objects ...cell) []uint64 {
	return trial.Memory(sh, api.Free, free, objects...)
}

func fresh(t *testing.T, sh api.Shape) []uint64 {
	t.Helper()
	words, e := shape.Fresh(sh)
	if e != api.OK {
		t.Fatal(sh, e)
	}
	return words
}

// play plays a run, and holds it to the tables.
func play(t *testing.T, sh api.Shape, words []uint64, hands [][]api.Job, schedule []int, most int) (api.Trace, [][]api.Answer) {
	t.Helper()
	return rooms.HoldRun(t, sh, words, hands, schedule, most)
}

// headOf: an object's, as Make leaves it.
func headOf(j api.Job, gen uint64) uint64 { return 1 + uint64(2*j.C+4*j.B) + gen*half }

// endsJob: is this step the last one of such a job?
func endsJob(sh api.Shape, j api.Job, s api.Step) bool {
	isRefused := j.Kind == room.Alloc && s.At == api.Free && s.Act == api.Load && trial.HeadAt(sh, trial.Number(s.Had)) < 0
	return s.Act == api.Add || isRefused
}

// A misuse is a Back of an object that its hand doesn't have: whose it is, which one of the hand's jobs, and what it has.
type misuse struct {
	hand, job int
	has       []int
}

// misuseIn: the first one of a run, by the steps at which jobs begin; false, if there is none.
func misuseIn(sh api.Shape, hands [][]api.Job, x api.Trace, a [][]api.Answer) (misuse, bool) {
	number, begun, has := make([]int, len(hands)), make([]bool, len(hands)), make([][]int, len(hands))
	for _, s := range x.Steps {
		h := s.Hand
		j := hands[h][number[h]]
		if j.Kind == room.Back && !begun[h] {
			at := slices.Index(has[h], j.A)
			if at < 0 {
				return misuse{h, number[h], has[h]}, true
			}
			has[h] = slices.Delete(has[h], at, at+1)
		}
		begun[h] = true
		if !endsJob(sh, j, s) {
			continue
		}
		if told := a[h][number[h]]; j.Kind == room.Alloc && told.OK {
			has[h] = append(has[h], trial.Number(told.Val))
		}
		begun[h] = false
		number[h]++
	}
	return misuse{}, false
}

// proper: the jobs, where each Back is of an object that its hand has by then. Another job instead of a wrong one changes nothing
// of the run ahead of it: so one behind the other is mended.
func proper(t *testing.T, from *trial.Source, sh api.Shape, words []uint64, hands [][]api.Job, schedule []int) [][]api.Job {
	t.Helper()
	out := slices.Clone(hands)
	for h := range out {
		out[h] = slices.Clone(out[h])
	}
	for {
		x, a, e := room.Play(sh, words, out, schedule, api.MaxSteps)
		if e != api.OK || !x.Ended {
			t.Fatal(sh, out, x.Ended, e)
		}
		wrong, isWrong := misuseIn(sh, out, x, a)
		switch {
		case !isWrong:
			return out
		case len(wrong.has) == 0:
			out[wrong.hand][wrong.job] = allocOf(from.Below(2), from.Below(2))
		default:
			out[wrong.hand][wrong.job] = back(wrong.has[from.Below(len(wrong.has))])
		}
	}
}

// A shelf is a heap by the steps of a run from fresh words so far.
type shelf struct {
	free []int       // the list, its first object last
	own  map[int]int // who has an object, or is about to have it
	gens map[int]uint64
}

func newShelf(sh api.Shape) *shelf {
	s := &shelf{own: map[int]int{}, gens: map[int]uint64{}}
	for number := sh.Objects; number > 0; number-- {
		s.free = append(s.free, number)
	}
	return s
}

// first: of the list; 0, if it is empty.
func (f *shelf) first() int {
	if len(f.free) == 0 {
		return 0
	}
	return f.free[len(f.free)-1]
}

// follow takes a step of a job. An object goes from hand to hand at the CAS of Free alone.
func (f *shelf) follow(j *trial.Job, s api.Step) string {
	isFree, isAlloc := s.At == api.Free, j.Kind == room.Alloc
	isTurned := isFree && s.Act == api.CAS && s.OK
	switch {
	case isFree && trial.Number(s.Had) != f.first():
		return fmt.Sprint("Free shows another one; the list is ", f.free)
	case isAlloc && isFree && s.Act == api.Load && len(f.free) == 0:
		j.End(api.Answer{})
	case isAlloc && isTurned:
		return f.take(j)
	case isAlloc && s.Act == api.Add:
		number := int(j.Note)
		j.End(trial.Told(tagged(number, f.gens[number])))
	case !isAlloc && isTurned:
		return f.lay(j)
	case !isAlloc && s.Act == api.Add:
		j.End(trial.Told(uint64(j.A)))
	}
	return ""
}

func (f *shelf) take(j *trial.Job) string {
	number := f.first()
	if other, isOwned := f.own[number]; isOwned {
		return fmt.Sprint(number, " is hand ", other, "'s")
	}
	f.own[number] = j.Hand
	f.free = f.free[:len(f.free)-1]
	j.Note = uint64(number)
	return ""
}

func (f *shelf) lay(j *trial.Job) string {
	if other, isOwned := f.own[j.A]; !isOwned || other != j.Hand {
		return fmt.Sprint(j.A, " is not hand ", j.Hand, "'s")
	}
	delete(f.own, j.A)
	f.free = append(f.free, j.A)
	f.gens[j.A]++
	return ""
}

// holdOwned plays a run from fresh words, in which no hand gives back what it doesn't have, and holds it step by step to a shelf.
func holdOwned(t *testing.T, sh api.Shape, hands [][]api.Job, schedule []int, most int) (api.Trace, [][]api.Answer) {
	t.Helper()
	x, a := play(t, sh, fresh(t, sh), hands, schedule, most)
	if wrong, isWrong := misuseIn(sh, hands, x, a); isWrong {
		t.Fatal("no such run:", hands, wrong)
	}
	f := newShelf(sh)
	trial.HoldFollowed(t, x, hands, a, f.follow)
	list, whole := trial.ListIn(sh, x.Words, api.Free)
	slices.Reverse(list)
	if !whole || !slices.Equal(list, f.free) {
		t.Fatalf("%v %x: the list is %v; want %v", sh, x.Words, list, f.free)
	}
	if x.Ended {
		holdEachAlone(t, sh, hands, a)
		holdNothingLost(t, sh, hands, x, a)
	}
	return x, a
}

// holdEachAlone: P17.2 by the answers alone.
func holdEachAlone(t *testing.T, sh api.Shape, hands [][]api.Job, a [][]api.Answer) {
	t.Helper()
	made, given := map[uint64]int{}, map[int]int{}
	for h, jobs := range hands {
		for k, told := range a[h] {
			switch {
			case jobs[k].Kind == room.Back:
				given[jobs[k].A]++
			case told.OK:
				made[told.Val]++
			}
		}
	}
	for h, times := range made {
		number, gen := trial.Number(h), trial.Upper(h)
		if times != 1 || number < 1 || number > sh.Objects || gen > uint64(given[number]) || gen > 0 && made[h-half] == 0 {
			t.Fatalf("%x was told %d times; all: %v; %d was given back %d times", h, times, made, number, given[number])
		}
	}
}

// holdNothingLost: P17.3 by the words and answers alone.
func holdNothingLost(t *testing.T, sh api.Shape, hands [][]api.Job, x api.Trace, a [][]api.Answer) {
	t.Helper()
	given, heads := map[int]uint64{}, map[int]uint64{}
	for h, jobs := range hands {
		for k := range a[h] {
			if jobs[k].Kind == room.Back {
				given[jobs[k].A]++
			}
		}
	}
	for h, jobs := range hands {
		for k, told := range a[h] {
			number := trial.Number(told.Val)
			if jobs[k].Kind == room.Alloc && told.OK && trial.Upper(told.Val) == given[number] {
				heads[number] = headOf(jobs[k], given[number]) // nobody has given it back
			}
		}
	}
	list, whole := trial.ListIn(sh, x.Words, api.Free)
	if !whole || len(list)+len(heads) != sh.Objects {
		t.Fatalf("%v is lost: %v are free, %x in use", hands, list, heads)
	}
	for number := 1; number <= sh.Objects; number++ {
		want, isUsed := heads[number]
		if !isUsed {
			want = given[number] * half
		}
		if is := x.Words[trial.HeadAt(sh, number)]; is != want || slices.Contains(list, number) == isUsed {
			t.Fatalf("object %d has the head %x; want %x; free are %v", number, is, want, list)
		}
	}
	if made := x.Words[api.Allocated] - x.Words[api.Freed]; made != uint64(len(heads)) {
		t.Fatalf("%d less %d, but %d are in use", x.Words[api.Allocated], x.Words[api.Freed], len(heads))
	}
}

// anyWords: any at all, but Free with an object or about one more often, and generations about to end.
func anyWords(from *trial.Source, sh api.Shape) []uint64 {
	words := from.Words(sh)
	if from.Below(5) > 0 {
		words[api.Free] = tagged(from.Below(sh.Objects+2), tags()[from.Below(len(tags()))])
	}
	for number := 1; number <= sh.Objects; number++ {
		at := trial.HeadAt(sh, number)
		if from.Below(3) > 0 {
			words[at] = tagged(trial.Number(words[at]), []uint64{0, 1, half - 2, half - 1}[from.Below(4)])
		}
	}
	return words
}

// anyJobs: of both kinds. What a kind doesn't use is any number.
func anyJobs(from *trial.Source, sh api.Shape, hands, most int) [][]api.Job {
	return from.Jobs(hands, most, func() api.Job {
		if from.Below(5) < 2 {
			return api.Job{Kind: room.Back, A: 1 + from.Below(sh.Objects), B: from.End(), C: from.End(), H: from.Value()}
		}
		return api.Job{Kind: room.Alloc, A: from.End(), B: from.Below(2), C: from.Below(2), H: from.Value()}
	})
}

// everyOrder goes through each order of the hands' steps.
func everyOrder(t *testing.T, sh api.Shape, words []uint64, hands [][]api.Job, hold func(schedule []int)) int {
	t.Helper()
	return rooms.EveryOrder(t, sh, words, hands, nil, hold)
}
