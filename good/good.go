// Package good tells good handles, and objects' numbers, from others, for the layers that look at a heap as it is seen. It is no layer itself.
package good

import (
	"midden/api"
	"midden/word"
)

// Object: the number of the object that the handle shows, from 1 on; 0, if it isn't good among these objects.
func Object(objects []api.Object, h uint64) int {
	number := word.Index(h)
	if !IsObject(objects, number) {
		return 0
	}
	if o := objects[number-1]; !o.Used || o.Gen != word.Gen(h) {
		return 0
	}
	return number
}

// IsObject: is it the number of one of these objects, in use or not?
func IsObject(objects []api.Object, number int) bool { return number >= 1 && number <= len(objects) }
