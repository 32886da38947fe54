package view

import (
	"slices"

	"midden/api"
	"midden/good"
)

// outForGood: an object of this generation that is out of use needn't be on the free list: it is never made again.
const outForGood = 1<<32 - 1

// isSound: is it a memory at rest, of which all holds that the collector leaves behind?
func (m memory) isSound() bool {
	v := m.look()
	return v.Phase == api.Idle && m.areWhole() && len(v.Grey) == 0 &&
		areObjectsSound(v) && isQueueSound(v) && areHandlesGood(v)
}

// areWhole: do the lists end at a nought, not at a number of no object, and not in a ring?
func (m memory) areWhole() bool {
	_, free := m.free()
	_, grey := m.grey()
	_, queue := m.queue()
	return free == 0 && grey == 0 && queue == 0
}

func areObjectsSound(v api.View) bool {
	for i, o := range v.Objects {
		isFree := slices.Contains(v.Free, i+1)
		if o.Used && !isUsedSound(o, isFree) || !o.Used && !isUnusedSound(o, isFree) {
			return false
		}
	}
	return true
}

func isUsedSound(o api.Object, isFree bool) bool { return o.Live && !isFree }

func isUnusedSound(o api.Object, isFree bool) bool {
	return (isFree || o.Gen == outForGood) && !slices.ContainsFunc(o.Slots, isSomething)
}

func isSomething(h uint64) bool { return h != 0 }

func isQueueSound(v api.View) bool {
	for _, index := range v.Queue {
		if o := v.Objects[index-1]; !o.Used || !o.Final || !o.Taken {
			return false
		}
	}
	return true
}

// areHandlesGood: is nothing but good handles held by the roots, the weak words and the objects in use?
func areHandlesGood(v api.View) bool {
	held := [][]uint64{v.Weaks}
	held = append(held, v.Roots...)
	for _, o := range v.Objects {
		if o.Used {
			held = append(held, o.Slots)
		}
	}
	for _, handles := range held {
		for _, h := range handles {
			if h != 0 && good.Object(v.Objects, h) == 0 {
				return false
			}
		}
	}
	return true
}
