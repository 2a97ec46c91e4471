// Package times: times, windows and spans: see doc/02-times.md.
package times

import "meetwater/api"

// Fits tells whether t is a time.
func Fits(t int) bool { return -api.MaxTime <= t && t <= api.MaxTime }

// allFit lets sums and differences of two of ts be made without going round.
func allFit(ts ...int) bool {
	for _, t := range ts {
		if !Fits(t) {
			return false
		}
	}
	return true
}

// Add is the sum of t and d, or the bound of times that it is beyond.
func Add(t, d int) int {
	// The sum itself may go round, so its bounds are asked without it.
	if d > 0 && t > api.MaxTime-d {
		return api.MaxTime
	}
	if d < 0 && t < -api.MaxTime-d {
		return -api.MaxTime
	}
	return max(-api.MaxTime, min(t+d, api.MaxTime))
}

// Window tells where the window of t begins, and where the next one does.
func Window(t, size int) (int, int, api.Errno) {
	if !Fits(t) || size < 1 || size > api.MaxTime {
		return 0, 0, api.ErrRange
	}
	from := t - t%size
	if from > t { // the rest of a time ahead of 0 is not above 0
		from -= size
	}
	return from, from + size, api.OK
}

// Meets tells whether r is from l + low to l + high.
func Meets(l, r, low, high int) (bool, api.Errno) {
	if !allFit(l, r, low, high) {
		return false, api.ErrRange
	}
	if low > high {
		return false, api.ErrForm
	}
	return l+low <= r && r <= l+high, api.OK
}

// Until is the greatest time that, span added to it, is not behind the mark.
func Until(mark, span int) (int, api.Errno) {
	if !allFit(mark, span) {
		return 0, api.ErrRange
	}
	if mark == api.MaxTime { // nobody comes behind it, whatever the span
		return api.MaxTime, api.OK
	}
	return mark - span, api.OK
}
