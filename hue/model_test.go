package hue_test

import (
	"slices"

	"midden/api"
	"midden/trial"
)

// The chapter as plain code, on what trial tells of what shows what and of what is reached: nothing of the program is called.

const half = 1 << 32

func isWhite(o api.Object) bool { return o.Used && !o.Live }

func isGrey(v api.View, busy []int, number int) bool {
	o := v.Objects[number-1]
	return o.Used && o.Live && (slices.Contains(v.Grey, number) || slices.Contains(busy, number))
}

func isBlack(v api.View, busy []int, number int) bool {
	o := v.Objects[number-1]
	return o.Used && o.Live && !isGrey(v, busy, number)
}

func sorts(v api.View, busy []int) (white, grey, black []int) {
	for i, o := range v.Objects {
		if isWhite(o) {
			white = append(white, i+1)
		}
		if isGrey(v, busy, i+1) {
			grey = append(grey, i+1)
		}
		if isBlack(v, busy, i+1) {
			black = append(black, i+1)
		}
	}
	return white, grey, black
}

// whitesOf: the numbers of the white objects that an object shows, rising.
func whitesOf(v api.View, number int) []int {
	var out []int
	if !v.Objects[number-1].Used {
		return nil
	}
	for i, isShown := range trial.ShownBy(v, v.Objects[number-1].Slots) {
		if isShown && isWhite(v.Objects[i]) {
			out = append(out, i+1)
		}
	}
	return out
}

func strong(v api.View, busy []int) (int, api.Errno) {
	_, _, black := sorts(v, busy)
	for _, number := range black {
		if len(whitesOf(v, number)) > 0 {
			return number, api.ErrWhite
		}
	}
	return 0, api.OK
}

// sheltered: for each object, whether it is white and a grey one shows it, or one that is sheltered. No way is longer than there
// are objects: so each comes to its end in as many rounds.
func sheltered(v api.View, busy []int) []bool {
	out := make([]bool, len(v.Objects))
	for range v.Objects {
		for i := range v.Objects {
			if !out[i] && !isGrey(v, busy, i+1) {
				continue
			}
			for _, number := range whitesOf(v, i+1) {
				out[number-1] = true
			}
		}
	}
	return out
}

func weak(v api.View, busy []int) (int, api.Errno) {
	_, _, black := sorts(v, busy)
	var shown []int
	for _, number := range black {
		shown = append(shown, whitesOf(v, number)...)
	}
	slices.Sort(shown)
	inShelter := sheltered(v, busy)
	for _, number := range shown {
		if !inShelter[number-1] {
			return number, api.ErrWhite
		}
	}
	return 0, api.OK
}

// safe: all that is looked at is laid in a row, each with what is told of it, if it is wrong.
func safe(v api.View) (int, api.Errno) {
	type looked struct {
		wrong bool
		told  int
	}
	var row []looked
	add := func(h uint64) { row = append(row, looked{h != 0 && trial.Shown(v, h) == 0, int(h % half)}) }
	for _, h := range slices.Concat(v.Roots...) {
		add(h)
	}
	for _, number := range v.Queue {
		row = append(row, looked{number < 1 || number > len(v.Objects) || !v.Objects[number-1].Used, number})
	}
	for i, live := range trial.Reached(v, trial.Starts(v)) {
		for _, h := range v.Objects[i].Slots {
			if live {
				add(h)
			}
		}
	}
	if at := slices.IndexFunc(row, func(l looked) bool { return l.wrong }); at >= 0 {
		return row[at].told, api.ErrWhite
	}
	return 0, api.OK
}
