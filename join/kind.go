package join

import (
	"meetwater/api"
	"meetwater/buffer"
	"meetwater/entries"
	"meetwater/plan"
	"meetwater/sides"
)

// kind is what the kinds of plans do with what comes. How rows meet is each
// one's own; the rest they have of common, or do beside it.
type kind interface {
	// meet tells what comes of a row's meeting others, and whether it is Met.
	meet(r comer) bool
	// keep lets a row wait for those who may still meet it.
	keep(r comer, met bool)
	// goOn lets a side's mark go on.
	goOn(side, time int)
	// forget lets go whom nobody meets any more.
	forget()
	// made is what has become of the join, and the changes that were told.
	made() (api.Join, []api.Change)
}

func kindOf(p api.Plan, s api.Join) kind {
	c := common{plan: p, join: copied(s)}
	switch p.Kind {
	case api.Interval:
		return &interval{c}
	case api.Window:
		return &window{c}
	}
	return &temporal{c}
}

// comer is a row that comes, and its key, if it has one.
type comer struct {
	side, time int
	row        []api.Value
	key        string
	keyed      bool
}

// comerOf relies on the row's having been found right.
func comerOf(p api.Plan, e api.Event) comer {
	key, keyed, _ := plan.KeyOf(p, e.Side, e.Row)
	return comer{side: e.Side, time: e.Time, row: e.Row, key: key, keyed: keyed}
}

// common is what all kinds have and do. What it asks of buffers was checked
// ahead of it, and each act leaves it right, so no error can come of that.
type common struct {
	plan api.Plan
	join api.Join
	told []api.Change
}

func (c *common) goOn(side, time int) { *markOf(&c.join, side) = time }

func (c *common) keep(r comer, met bool) {
	if r.keyed && r.time > c.gone(r.side) {
		b := bufferOf(&c.join, r.side)
		*b, _ = buffer.Put(*b, api.Entry{Key: r.key, Time: r.time, Seq: c.join.Seq, Row: r.row, Met: met})
	}
	c.join.Seq++
}

func (c *common) forget() {
	for _, side := range []int{api.Left, api.Right} {
		b := bufferOf(&c.join, side)
		*b, _ = buffer.Drop(*b, c.gone(side))
	}
}

func (c *common) made() (api.Join, []api.Change) { return c.join, c.told }

// gone is the time up to which a side's rows meet nobody any more; below all
// times, as long as the other side has no mark.
func (c *common) gone(side int) int {
	mark := *markOf(&c.join, sides.Other(side))
	if mark == api.NoMark {
		return api.NoMark
	}
	time, _ := plan.Gone(c.plan, side, mark)
	return time
}

// waiting is the entries of the other side that have a row's key, from a time
// to another.
func (c *common) waiting(r comer, from, to int) []api.Entry {
	if !r.keyed {
		return nil
	}
	l, _ := buffer.Scan(*bufferOf(&c.join, sides.Other(r.side)), r.key, from, to)
	return l
}

// nowMet lets entries of a side be Met, all in one go through its buffer; each
// is told from all others by its Seq.
func (c *common) nowMet(side int, l []api.Entry) {
	met := make(map[int]int)
	for _, e := range l {
		met[e.Seq]++
	}
	for part := range entries.Parts(*bufferOf(&c.join, side)) {
		for i := range part {
			part[i].Met = part[i].Met || met[part[i].Seq] > 0
		}
	}
}

func (c *common) insert(row []api.Value) {
	c.told = append(c.told, api.Change{Kind: api.Insert, Row: row})
}

func (c *common) turn(before, after []api.Value) {
	c.told = append(c.told, api.Change{Kind: api.Before, Row: before}, api.Change{Kind: api.After, Row: after})
}

// alone is a row of a side with Nulls for the other side's cells.
func (c *common) alone(side int, row []api.Value) []api.Value {
	return sides.Joined(side, row, sides.Nulls(c.plan, sides.Other(side)))
}

func bufferOf(s *api.Join, side int) *api.Buffer {
	if side == api.Right {
		return &s.Right
	}
	return &s.Left
}

func markOf(s *api.Join, side int) *int {
	if side == api.Right {
		return &s.RMark
	}
	return &s.LMark
}

func copied(s api.Join) api.Join {
	s.Left = entries.Kept(s.Left, entries.Always)
	s.Right = entries.Kept(s.Right, entries.Always)
	return s
}
