package word_test

import (
	"math"
	"sync"
	"testing"

	"midden/api"
	"midden/word"
)

// field reads so many bits of a word one by one, so that the tests lean on none of the program's masks.
func field(w uint64, from, count int) uint64 {
	var n uint64
	for i := count - 1; i >= 0; i-- {
		n *= 2
		if w/pow2(from+i)%2 == 1 {
			n++
		}
	}
	return n
}

func pow2(n int) uint64 {
	p := uint64(1)
	for ; n > 0; n-- {
		p *= 2
	}
	return p
}

// lay writes a number, bit by bit, at a place of a word whose bits are 0 there.
func lay(w, n uint64, from, count int) uint64 {
	for i := range count {
		if n/pow2(i)%2 == 1 {
			w += pow2(from + i)
		}
	}
	return w
}

func number(b bool) uint64 {
	if b {
		return 1
	}
	return 0
}

// samples are words with each single bit, each run of bits from either end, and many mixed ones, always the same.
func samples() []uint64 {
	ws := []uint64{0, math.MaxUint64, 0xffffffff00000007, 0x1ffff0209, 0xaaaaaaaaaaaaaaaa, 0x5555555555555555}
	for i := range 64 {
		one := uint64(1) << i
		ws = append(ws, one, one-1, ^one, ^(one - 1))
	}
	x := uint64(1)
	for range 4000 {
		x = x*6364136223846793005 + 1442695040888963407
		ws = append(ws, x^x>>29)
	}
	return ws
}

// ints are both ends of the type, both ends of a half, and numbers about 0.
var ints = [...]int{math.MinInt, math.MinInt + 1, -1<<32 - 1, -1 << 32, -1<<31 - 1, -1 << 31, -2, -1, 0, 1, 2, 3, 7,
	255, 256, 1<<31 - 1, 1 << 31, 1<<32 - 1, 1 << 32, 1<<32 + 1, math.MaxInt - 1, math.MaxInt}

var uints = [...]uint64{0, 1, 5, 1<<31 - 1, 1 << 31, 1<<32 - 2, 1<<32 - 1, 1 << 32, 1<<32 + 5, 1<<56 - 1, 1 << 56,
	1 << 63, math.MaxUint64 - 1, math.MaxUint64}

// modHalf is n modulo 2^32, from 0 on.
func modHalf(n int) uint64 {
	r := n % (1 << 32)
	if r < 0 {
		r += 1 << 32
	}
	return uint64(r)
}

func TestP1_1_Halves(t *testing.T) {
	for _, i := range ints {
		for _, g := range uints {
			want := modHalf(i) + g%(1<<32)*(1<<32)
			if h := word.Handle(i, g); h != want {
				t.Errorf("Handle(%d, %d) = %x, not %x", i, g, h, want)
			}
			if h := word.Tagged(i, g); h != want {
				t.Errorf("Tagged(%d, %d) = %x, not %x", i, g, h, want)
			}
		}
	}
	for _, w := range samples() {
		if i := word.Index(w); uint64(i) != field(w, 0, 32) || i < 0 {
			t.Errorf("Index(%x) = %d", w, i)
		}
		if g := word.Gen(w); g != field(w, 32, 32) {
			t.Errorf("Gen(%x) = %d", w, g)
		}
	}
}

func TestP1_1_HalvesOfTheExamples(t *testing.T) {
	if h := word.Handle(3, 1); h != 0x100000003 || word.Index(h) != 3 || word.Gen(h) != 1 {
		t.Errorf("Handle(3, 1) = %x", h)
	}
	if h := word.Handle(-1, 1<<32+5); h != 0x5ffffffff {
		t.Errorf("Handle(-1, 2^32 + 5) = %x", h)
	}
	if b := word.Bump(0xffffffff00000007, 9); b != 9 {
		t.Errorf("Bump at the last tag = %x", b)
	}
}

func TestP1_1_Bump(t *testing.T) {
	for _, w := range samples() {
		for _, i := range ints {
			tag := (field(w, 32, 32) + 1) % (1 << 32)
			want := modHalf(i) + tag*(1<<32)
			if b := word.Bump(w, i); b != want || b != word.Tagged(i, field(w, 32, 32)+1) {
				t.Fatalf("Bump(%x, %d) = %x, not %x", w, i, b, want)
			}
		}
	}
}

// objects are all that Pack takes, at the edges of its numbers and with all flags.
func objects() []api.Object {
	var os []api.Object
	for flags := range 16 {
		for _, age := range []int{0, 1, 2, 127, 128, 254, 255} {
			for _, gen := range []uint64{0, 1, 1 << 31, 1<<32 - 2, 1<<32 - 1} {
				os = append(os, api.Object{
					Used: flags&1 != 0, Live: flags&2 != 0, Final: flags&4 != 0, Taken: flags&8 != 0,
					Age: age, Gen: gen,
				})
			}
		}
	}
	return os
}

// headOf is the head that the chapter's words tell, bit by bit.
func headOf(o api.Object, colour int) uint64 {
	own := uint64(colour)
	if !o.Live {
		own = 1 - own
	}
	w := lay(0, number(o.Used), 0, 1)
	w = lay(w, own, 1, 1)
	w = lay(w, number(o.Final), 2, 1)
	w = lay(w, number(o.Taken), 3, 1)
	w = lay(w, uint64(o.Age), 8, 8)
	return lay(w, o.Gen, 32, 32)
}

func TestP1_1_Pack(t *testing.T) {
	for _, o := range objects() {
		for colour := range 2 {
			if w, e := word.Pack(o, colour); w != headOf(o, colour) || e != api.OK {
				t.Errorf("Pack(%v, %d) = %x, %d, not %x", o, colour, w, e, headOf(o, colour))
			}
		}
	}
}

func TestP1_1_PackExamples(t *testing.T) {
	for _, c := range []struct {
		o    api.Object
		want uint64
	}{
		{api.Object{Used: true, Live: true, Final: true, Age: 2, Gen: 1}, 0x100000207},
		{api.Object{Used: true}, 1},
		{api.Object{Live: true}, 2},
	} {
		if w, e := word.Pack(c.o, 1); w != c.want || e != api.OK {
			t.Errorf("Pack(%v, 1) = %x, %d, not %x", c.o, w, e, c.want)
		}
	}
}

func TestP1_1_PackRefuses(t *testing.T) {
	full := api.Object{Used: true, Live: true, Final: true, Taken: true, Age: 9, Gen: 9}
	for _, colour := range []int{math.MinInt, -2, -1, 2, 3, 256, 1 << 32, 1<<32 + 1, math.MaxInt} {
		if w, e := word.Pack(full, colour); w != 0 || e != api.ErrWord {
			t.Errorf("colour %d: %x, %d", colour, w, e)
		}
	}
	for _, age := range []int{math.MinInt, -256, -1, 256, 257, 1 << 32, math.MaxInt} {
		o := full
		o.Age = age
		if w, e := word.Pack(o, 1); w != 0 || e != api.ErrWord {
			t.Errorf("age %d: %x, %d", age, w, e)
		}
	}
	for _, gen := range []uint64{1 << 32, 1<<32 + 1, 1 << 63, math.MaxUint64} {
		o := full
		o.Gen = gen
		if w, e := word.Pack(o, 0); w != 0 || e != api.ErrWord {
			t.Errorf("generation %d: %x, %d", gen, w, e)
		}
	}
}

func TestP1_1_PackDoesNotLookAtLinks(t *testing.T) {
	room := []uint64{7, 8, 9}
	for _, o := range objects() {
		want, _ := word.Pack(o, 1)
		o.Link, o.Next, o.Slots = math.MaxUint64, 1<<40, room[:2]
		if w, e := word.Pack(o, 1); w != want || e != api.OK {
			t.Errorf("Pack(%v, 1) = %x, %d, not %x", o, w, e, want)
		}
	}
	if room[0] != 7 || room[1] != 8 || room[2] != 9 {
		t.Errorf("Pack has changed the slots: %v", room)
	}
}

func checkUnpack(t *testing.T, w uint64) {
	t.Helper()
	o, colour := word.Unpack(w)
	if o.Used != (field(w, 0, 1) == 1) || o.Final != (field(w, 2, 1) == 1) || o.Taken != (field(w, 3, 1) == 1) {
		t.Errorf("Unpack(%x): flags %v", w, o)
	}
	if uint64(o.Age) != field(w, 8, 8) || o.Gen != field(w, 32, 32) || uint64(colour) != field(w, 1, 1) {
		t.Errorf("Unpack(%x): age %d, generation %d, colour %d", w, o.Age, o.Gen, colour)
	}
	if o.Live || o.Link != 0 || o.Next != 0 || len(o.Slots) != 0 {
		t.Errorf("Unpack(%x) tells more than the head does: %v", w, o)
	}
}

func TestP1_1_Unpack(t *testing.T) {
	for _, w := range samples() {
		checkUnpack(t, w)
	}
	for w := range uint64(1 << 16) {
		checkUnpack(t, w)
	}
	o, colour := word.Unpack(0x100000209)
	if !o.Used || o.Final || !o.Taken || o.Age != 2 || o.Gen != 1 || colour != 0 {
		t.Errorf("Unpack(100000209) = %v, %d", o, colour)
	}
}

// unread are a head's bits 4 to 7 and 16 to 31.
const unread = 0xffff00f0

func TestP1_1_UnpackDoesNotLookAtTheRest(t *testing.T) {
	for _, w := range samples() {
		a, c := word.Unpack(w &^ unread)
		for _, other := range []uint64{w, w | unread, w ^ 0xf0, w ^ 0xffff0000} {
			b, d := word.Unpack(other)
			if a.Used != b.Used || a.Final != b.Final || a.Taken != b.Taken || a.Age != b.Age || a.Gen != b.Gen || c != d {
				t.Errorf("Unpack(%x) is another than that of %x", other, w&^unread)
			}
		}
	}
}

var rounds = [...]uint64{0, 1, 5, 255, 256, 1<<32 - 1, 1 << 32, 1 << 55, 1<<56 - 2, 1<<56 - 1}

func TestP1_1_Moment(t *testing.T) {
	for phase := api.Idle; phase <= api.Sweep; phase++ {
		for colour := range 2 {
			for _, round := range rounds {
				want := lay(lay(lay(0, uint64(phase), 0, 3), uint64(colour), 3, 1), round, 8, 56)
				if w, e := word.Moment(phase, colour, round); w != want || e != api.OK {
					t.Errorf("Moment(%d, %d, %d) = %x, %d, not %x", phase, colour, round, w, e, want)
				}
			}
		}
	}
	if w, e := word.Moment(api.Mark, 1, 5); w != 0x50a || e != api.OK {
		t.Errorf("Moment(Mark, 1, 5) = %x, %d", w, e)
	}
}

func TestP1_1_MomentRefuses(t *testing.T) {
	refused := func(phase, colour int, round uint64) {
		t.Helper()
		if w, e := word.Moment(phase, colour, round); w != 0 || e != api.ErrWord {
			t.Errorf("Moment(%d, %d, %d) = %x, %d", phase, colour, round, w, e)
		}
	}
	for _, phase := range []int{math.MinInt, -1, 5, 6, 7, 8, 1 << 32, math.MaxInt} {
		refused(phase, 0, 0)
		refused(phase, 1, 9)
	}
	for _, colour := range []int{math.MinInt, -1, 2, 1 << 32, math.MaxInt} {
		refused(api.Idle, colour, 0)
		refused(api.Sweep, colour, 9)
	}
	for _, round := range []uint64{1 << 56, 1<<56 + 1, 1 << 63, math.MaxUint64} {
		refused(api.Idle, 0, round)
		refused(api.Mark, 1, round)
	}
}

func checkParts(t *testing.T, w uint64) {
	t.Helper()
	phase, colour, round := word.Parts(w)
	if uint64(phase) != field(w, 0, 3) || uint64(colour) != field(w, 3, 1) || round != field(w, 8, 56) {
		t.Errorf("Parts(%x) = %d, %d, %d", w, phase, colour, round)
	}
}

func TestP1_1_Parts(t *testing.T) {
	for _, w := range samples() {
		checkParts(t, w)
		checkParts(t, w|0xf0)
		checkParts(t, w&^0xf0)
	}
	for w := range uint64(1 << 12) {
		checkParts(t, w)
	}
	for phase := range 8 {
		if p, _, _ := word.Parts(uint64(phase)); p != phase {
			t.Errorf("Parts(%d) tells the phase %d", phase, p)
		}
	}
}

func TestP1_1_White(t *testing.T) {
	colours := []int{math.MinInt, -1, 0, 1, 2, 3, 1 << 32, 1<<32 + 1, math.MaxInt}
	for _, head := range samples() {
		own := field(head, 32, 32)
		for _, gen := range []uint64{own, own + 1, own - 1, own + 1<<32, 0, 1<<32 - 1, math.MaxUint64} {
			for _, colour := range colours {
				other := int(field(head, 1, 1)) != colour
				want := field(head, 0, 1) == 1 && own == gen && other
				if word.White(head, gen, colour) != want {
					t.Fatalf("White(%x, %x, %d) isn't %v", head, gen, colour, want)
				}
			}
		}
	}
}

func TestP1_1_WhiteExamples(t *testing.T) {
	for _, c := range []struct {
		head, gen uint64
		colour    int
		want      bool
	}{
		{1, 0, 1, true},
		{1, 0, 0, false},
		{1, 1, 1, false},
		{2, 0, 0, false},
		{3, 0, 7, true},
		{1, 0, -1, true},
		{1, 1 << 32, 1, false},
		{1 | unread, 0, 1, true},
	} {
		if word.White(c.head, c.gen, c.colour) != c.want {
			t.Errorf("White(%x, %x, %d) isn't %v", c.head, c.gen, c.colour, c.want)
		}
	}
}

func TestP1_2_HandleThereAndBack(t *testing.T) {
	for _, w := range samples() {
		if h := word.Handle(word.Index(w), word.Gen(w)); h != w {
			t.Errorf("%x comes back as %x", w, h)
		}
	}
}

func TestP1_2_PackThereAndBack(t *testing.T) {
	for _, o := range objects() {
		for colour := range 2 {
			w, _ := word.Pack(o, colour)
			b, c := word.Unpack(w)
			if b.Used != o.Used || b.Final != o.Final || b.Taken != o.Taken || b.Age != o.Age || b.Gen != o.Gen {
				t.Errorf("%v comes back as %v", o, b)
			}
			if (c == colour) != o.Live {
				t.Errorf("Live %v with colour %d comes back as colour %d", o.Live, colour, c)
			}
		}
	}
}

func checkUnpackAndPack(t *testing.T, w uint64) {
	t.Helper()
	o, colour := word.Unpack(w)
	o.Live = true
	if b, e := word.Pack(o, colour); b != w&^unread || e != api.OK {
		t.Errorf("%x comes back as %x, %d", w, b, e)
	}
}

func TestP1_2_UnpackThereAndBack(t *testing.T) {
	for _, w := range samples() {
		checkUnpackAndPack(t, w)
	}
	for w := range uint64(1 << 16) {
		checkUnpackAndPack(t, w)
	}
}

func TestP1_2_MomentThereAndBack(t *testing.T) {
	for phase := api.Idle; phase <= api.Sweep; phase++ {
		for colour := range 2 {
			for _, round := range rounds {
				w, _ := word.Moment(phase, colour, round)
				if p, c, r := word.Parts(w); p != phase || c != colour || r != round {
					t.Errorf("%d, %d, %d comes back as %d, %d, %d", phase, colour, round, p, c, r)
				}
			}
		}
	}
}

func TestP1_3_BumpTurnsEveryWord(t *testing.T) {
	for _, w := range samples() {
		for _, i := range append(ints[:], word.Index(w)) {
			if word.Bump(w, i) == w {
				t.Errorf("Bump(%x, %d) turns nothing", w, i)
			}
		}
	}
}

// TestP1_3_BumpGoesAround makes all 2^32 turns, in parts beside one another: where a part ends, the next one has begun.
func TestP1_3_BumpGoesAround(t *testing.T) {
	const index, parts, first = 9, 16, 0xfffffffb
	var ends [parts]uint64
	var group sync.WaitGroup
	for k := range uint64(parts) {
		group.Go(func() {
			w := word.Tagged(index, first+k*(1<<32/parts))
			for range 1 << 32 / parts {
				w = word.Bump(w, index)
			}
			ends[k] = w
		})
	}
	group.Wait()
	for k, end := range ends {
		if next := word.Tagged(index, first+uint64(k+1)*(1<<32/parts)); end != next {
			t.Errorf("part %d ends at %x, not at %x", k, end, next)
		}
	}
	if ends[parts-1] != word.Tagged(index, first) {
		t.Errorf("2^32 turns lead to %x", ends[parts-1])
	}
}

// TestErrorsStandBesideZero: rule 3, and rule 6 (a call that is refused changes nothing for the next one).
func TestErrorsStandBesideZero(t *testing.T) {
	for range 2 {
		if w, e := word.Pack(api.Object{Used: true, Age: 256, Gen: 1 << 32}, 2); w != 0 || e != api.ErrWord {
			t.Errorf("Pack: %x, %d", w, e)
		}
		if w, e := word.Moment(5, 2, 1<<56); w != 0 || e != api.ErrWord {
			t.Errorf("Moment: %x, %d", w, e)
		}
		if w, e := word.Pack(api.Object{}, 1); w != 0 || e != api.OK {
			t.Errorf("Pack of an empty object: %x, %d", w, e)
		}
		if w, e := word.Moment(0, 0, 0); w != 0 || e != api.OK {
			t.Errorf("Moment of noughts: %x, %d", w, e)
		}
	}
}
