package join

import (
	"meetwater/api"
	"meetwater/sides"
	"meetwater/times"
)

// interval is the kind of which rows meet whose times are not far from each other.
type interval struct{ common }

func (k *interval) meet(r comer) bool {
	if r.side == api.Left {
		return k.pair(r, r.time+k.plan.Low, r.time+k.plan.High)
	}
	return k.pair(r, r.time-k.plan.High, r.time-k.plan.Low)
}

// window is the kind of which rows meet whose times are in one window.
type window struct{ common }

func (k *window) meet(r comer) bool {
	from, next, _ := times.Window(r.time, k.plan.Size)
	return k.pair(r, from, next-1)
}

// pair lets a row meet all of the other side that have its key, from a time to
// another, and tells whether there is one.
func (c *common) pair(r comer, from, to int) bool {
	other := sides.Other(r.side)
	partners := c.waiting(r, from, to)
	for _, e := range partners {
		both := sides.Joined(r.side, r.row, e.Row)
		if sides.Keeps(c.plan.Mode, other) && !e.Met {
			c.turn(c.alone(other, e.Row), both)
		} else {
			c.insert(both)
		}
	}
	c.nowMet(other, partners)
	if len(partners) == 0 && sides.Keeps(c.plan.Mode, r.side) {
		c.insert(c.alone(r.side, r.row))
	}
	return len(partners) > 0
}
