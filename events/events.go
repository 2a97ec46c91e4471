// Package events: how what takes events one by one takes a list of them.
package events

import "meetwater/api"

// Play steps what starts through all events, and passes over those that have
// an error: what it comes to, all changes, and the places that were passed over.
func Play[S any](start S, l []api.Event, step func(S, api.Event) (S, []api.Change, api.Errno)) (S, []api.Change, []int, api.Errno) {
	if len(l) > api.MaxEvents {
		var none S
		return none, nil, nil, api.ErrMany
	}
	now := start
	var told []api.Change
	var passed []int
	for at, e := range l {
		next, changes, f := step(now, e)
		if f != api.OK {
			passed = append(passed, at)
			continue
		}
		now = next
		told = append(told, changes...)
	}
	return now, told, passed, api.OK
}
