package once

import (
	"sync"

	"midden/api"
)

// A Group runs an action once a key, free: by sync.Once.
type Group struct{ keys []sync.Once }

// NewGroup: a group of so many keys. Do: f, if it is the first with this key; true for that one.
func NewGroup(keys int) (*Group, api.Errno) {
	if keys < 1 || keys > api.MaxRoom {
		return nil, api.ErrArg
	}
	return &Group{keys: make([]sync.Once, keys)}, api.OK
}
func (g *Group) Do(key int, f func()) (bool, api.Errno) {
	if g == nil || f == nil || key < 0 || key >= len(g.keys) {
		return false, api.ErrArg
	}
	first := false
	g.keys[key].Do(func() {
		first = true
		f()
	})
	return first, api.OK
}
