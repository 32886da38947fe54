package trial

import "midden/api"

// Load: the step of a load that found v.
func Load(hand, at int, v uint64) api.Step {
	return api.Step{Hand: hand, Act: api.Load, At: at, Had: v, Put: v, OK: true}
}

// Store: the step of a store of put over had.
func Store(hand, at int, had, put uint64) api.Step {
	return api.Step{Hand: hand, Act: api.Store, At: at, Had: had, Put: put, OK: true}
}

// Add: the step of an addition that made put of had.
func Add(hand, at int, had, put uint64) api.Step {
	return api.Step{Hand: hand, Act: api.Add, At: at, Had: had, Put: put, OK: true}
}

// CAS: the step of a CAS that was done.
func CAS(hand, at int, had, put uint64) api.Step {
	return api.Step{Hand: hand, Act: api.CAS, At: at, Had: had, Put: put, OK: true}
}

// Lost: the step of a CAS that was not done, for the word was had.
func Lost(hand, at int, had uint64) api.Step {
	return api.Step{Hand: hand, Act: api.CAS, At: at, Had: had, Put: had}
}

// Told: an answer with OK.
func Told(v uint64) api.Answer { return api.Answer{OK: true, Val: v} }
