package events

import (
	"slices"
	"testing"

	"meetwater/api"
)

// add takes the times of events together, and has an error of each below 0.
func add(sum int, e api.Event) (int, []api.Change, api.Errno) {
	if e.Time < 0 {
		return 99, []api.Change{{Kind: 99}}, api.ErrLate
	}
	return sum + e.Time, make([]api.Change, e.Time), api.OK
}

func TestPlay(t *testing.T) {
	for _, c := range []struct {
		times     []int
		sum, told int
		passed    []int
	}{
		{nil, 1, 0, nil}, {[]int{2, 3}, 6, 5, nil}, {[]int{-1}, 1, 0, []int{0}}, {[]int{2, -1, 0, 4, -5}, 7, 6, []int{1, 4}},
	} {
		var l []api.Event
		for _, time := range c.times {
			l = append(l, api.Event{Time: time})
		}
		sum, told, passed, e := Play(1, l, add)
		if e != api.OK || sum != c.sum || len(told) != c.told || !slices.Equal(passed, c.passed) {
			t.Errorf("%v: %d %v %v %d", c.times, sum, told, passed, e)
		}
		for _, x := range told {
			if x.Kind != 0 {
				t.Errorf("%v: what stands beside an error is told", c.times)
			}
		}
	}
}

func TestBounds(t *testing.T) {
	if sum, _, _, e := Play(1, slices.Repeat([]api.Event{{Time: 1}}, api.MaxEvents), add); e != api.OK || sum != api.MaxEvents+1 {
		t.Errorf("as many as may be: %d %d", sum, e)
	}
	if sum, told, passed, e := Play(1, make([]api.Event, api.MaxEvents+1), add); e != api.ErrMany || sum != 0 || len(told)+len(passed) > 0 {
		t.Errorf("one more: %d %v %v %d", sum, told, passed, e)
	}
}
