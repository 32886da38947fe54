package deal

import (
	"midden/api"
	"midden/cells"
	"midden/turn"
)

// The words ahead of the places' values.
const (
	top    = 0
	bottom = 1
	places = 2
)

// owner: the hand that lays and draws. No other one stores to bottom or to a place, so it needs no CAS there.
const owner = 0

// A move is what the jobs under way have in common.
type move struct {
	hand, room int
	state      int
	first      uint64 // top, as it was loaded last
	end        uint64 // the number behind the last value's, as bottom tells it
	value      uint64
	told       api.Answer
}

func (v *move) Answer() api.Answer { return v.told }

// there: how many values there are, by what was loaded. Where another hand is amid its job, it may be below 0.
func (v *move) there() int64 { return int64(v.end - v.first) }

func (v *move) placeOf(number uint64) int { return places + int(number%uint64(v.room)) }

func (v *move) tell() { v.told = api.Answer{OK: true, Val: v.value} }

func (v *move) load(m *cells.Mem, at int) api.Step { return m.Do(v.hand, api.Load, at, 0, 0) }

func (v *move) store(m *cells.Mem, at int, w uint64) api.Step {
	return m.Do(v.hand, api.Store, at, 0, w)
}

// take: the value of the number first is whose CAS is done.
func (v *move) take(m *cells.Mem) api.Step {
	s := m.Do(v.hand, api.CAS, top, v.first, v.first+1)
	if s.OK {
		v.tell()
	}
	return s
}

// The states of the chapter's tables. Each job has some of them, in an order of its own, from toBegin on.
const (
	toBegin  = iota
	toLessen // bottom
	toMeasure
	toTouch // a place
	toTake
	toSettle // bottom
)

// A laying is a Lay under way.
type laying struct{ move }

func (l *laying) Step(m *cells.Mem) (api.Step, int) {
	switch l.state {
	case toBegin:
		return l.begin(m)
	case toMeasure:
		return l.measure(m)
	case toTouch:
		return l.touch(m)
	}
	return l.settle(m)
}

func (l *laying) begin(m *cells.Mem) (api.Step, int) {
	s := l.load(m, bottom)
	l.end, l.state = s.Had, toMeasure
	return s, turn.Going
}

func (l *laying) measure(m *cells.Mem) (api.Step, int) {
	s := l.load(m, top)
	l.first = s.Had
	if l.there() >= int64(l.room) {
		return s, turn.Ended
	}
	l.state = toTouch
	return s, turn.Going
}

func (l *laying) touch(m *cells.Mem) (api.Step, int) {
	l.state = toSettle
	return l.store(m, l.placeOf(l.end), l.value), turn.Going
}

func (l *laying) settle(m *cells.Mem) (api.Step, int) {
	l.tell()
	return l.store(m, bottom, l.end+1), turn.Ended
}

// A drawing is a Draw under way. From its beginning on, end is the number of the value that it is after.
type drawing struct{ move }

func (d *drawing) Step(m *cells.Mem) (api.Step, int) {
	switch d.state {
	case toBegin:
		return d.begin(m)
	case toLessen:
		return d.lessen(m)
	case toMeasure:
		return d.measure(m)
	case toTouch:
		return d.touch(m)
	case toTake:
		d.state = toSettle
		return d.take(m), turn.Going
	}
	return d.store(m, bottom, d.end+1), turn.Ended
}

func (d *drawing) begin(m *cells.Mem) (api.Step, int) {
	s := d.load(m, bottom)
	d.end, d.state = s.Had-1, toLessen
	return s, turn.Going
}

// lessen: ahead of the load of top, so that whoever steals from then on sees that the last value is spoken for.
func (d *drawing) lessen(m *cells.Mem) (api.Step, int) {
	d.state = toMeasure
	return d.store(m, bottom, d.end), turn.Going
}

func (d *drawing) measure(m *cells.Mem) (api.Step, int) {
	s := d.load(m, top)
	d.first, d.state = s.Had, toTouch
	if d.there() < 0 {
		d.state = toSettle
	}
	return s, turn.Going
}

// touch: with others ahead of it the value is the owner's; the last one a thief may be after, too.
func (d *drawing) touch(m *cells.Mem) (api.Step, int) {
	s := d.load(m, d.placeOf(d.end))
	d.value, d.state = s.Had, toTake
	if d.there() > 0 {
		d.tell()
		return s, turn.Ended
	}
	return s, turn.Going
}

// A stealing is a Steal under way.
type stealing struct{ move }

func (t *stealing) Step(m *cells.Mem) (api.Step, int) {
	switch t.state {
	case toBegin:
		return t.begin(m)
	case toMeasure:
		return t.measure(m)
	case toTouch:
		return t.touch(m)
	}
	return t.finish(m)
}

func (t *stealing) begin(m *cells.Mem) (api.Step, int) {
	s := t.load(m, top)
	t.first, t.state = s.Had, toMeasure
	return s, turn.Going
}

func (t *stealing) measure(m *cells.Mem) (api.Step, int) {
	s := t.load(m, bottom)
	t.end = s.Had
	if t.there() <= 0 {
		return s, turn.Ended
	}
	t.state = toTouch
	return s, turn.Going
}

// touch: the value may be another one by now, but then top has gone on, and the CAS is not done.
func (t *stealing) touch(m *cells.Mem) (api.Step, int) {
	s := t.load(m, t.placeOf(t.first))
	t.value, t.state = s.Had, toTake
	return s, turn.Going
}

func (t *stealing) finish(m *cells.Mem) (api.Step, int) {
	s := t.take(m)
	if !s.OK {
		t.state = toBegin
		return s, turn.Going
	}
	return s, turn.Ended
}
