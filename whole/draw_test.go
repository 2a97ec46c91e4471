// Package whole: tests of what all layers together promise: see the section
// 'What the whole promises' of the document.
package whole

import (
	"math"
	"slices"
	"testing"

	"meetwater/api"
	"meetwater/desk"
)

func null() api.Value         { return api.Value{} }
func flag(n int) api.Value    { return api.Value{Kind: api.Bool, N: n} }
func num(n int) api.Value     { return api.Value{Kind: api.Int, N: n} }
func text(s string) api.Value { return api.Value{Kind: api.Text, S: s} }

// draw gives numbers that are the same each time.
type draw uint64

func (d *draw) n(n int) int {
	*d = *d*6364136223846793005 + 1442695040888963407
	return int(uint64(*d) >> 33 % uint64(n))
}

// one is one of these.
func one[T any](d *draw, of ...T) T { return of[d.n(len(of))] }

// text is a few bytes that are often the first or the last ones.
func (d *draw) text() string {
	b := make([]byte, d.n(4))
	for i := range b {
		b[i] = one(d, 0, 1, 2, 34, 92, 97, 254, 255, byte(d.n(256)))
	}
	return string(b)
}

// row is any row.
func (d *draw) row() (row []api.Value) {
	for range d.n(api.MaxCells + 1) {
		row = append(row, one(d, null(), flag(0), flag(1), num(d.n(3)-1), num(math.MinInt+d.n(2)), num(math.MaxInt-d.n(2)), text(d.text())))
	}
	return row
}

// plans is a plan of each kind and mode, each not grouped, and grouped by some
// columns, and by none. The sides have not the same columns.
func plans(d *draw) (l []api.Plan) {
	for kind := api.Interval; kind <= api.Temporal; kind++ {
		for mode := api.Inner; mode <= api.FullOuter; mode++ {
			if kind == api.Temporal && mode > api.LeftOuter {
				continue
			}
			p := api.Plan{Kind: kind, Mode: mode, Limit: 1 + d.n(3), Left: []int{api.Text, api.Int}, Right: []int{api.Int, api.Bool, api.Text}, LKeys: []int{1, 0}, RKeys: []int{0, 2}}
			if d.n(2) == 0 {
				p.LKeys, p.RKeys = []int{1}, []int{0}
			}
			switch kind {
			case api.Interval:
				p.Low = d.n(12) - 8
				p.High = p.Low + d.n(10)
			case api.Window:
				p.Size = 1 + d.n(9)
			}
			by, none := p, p
			by.Grouped, by.Group, by.Aggs = true, []int{0, 2}, []api.Agg{{Fn: api.CountOf}, {Fn: api.SumOf, Col: 1}, {Fn: api.MinOf, Col: 4}, {Fn: api.MaxOf, Col: 3}}
			none.Grouped, none.Aggs = true, []api.Agg{{Fn: api.MaxOf, Col: 1}, {Fn: api.CountOf}}
			l = append(l, p, by, none)
		}
	}
	return l
}

// rowOf is a row that may come in on a side; there are few of them.
func (d *draw) rowOf(p api.Plan, side int) (row []api.Value) {
	columns := p.Left
	if side == api.Right {
		columns = p.Right
	}
	for _, column := range columns {
		v := []api.Value{null(), flag(d.n(2)), num(d.n(2)), text(one(d, "", "a"))}[column]
		if d.n(12) == 0 {
			v = null()
		}
		row = append(row, v)
	}
	return row
}

// script is events of a plan, of times that go on; marks come rather often, and
// a few events are late, go back, or are of another type.
func (d *draw) script(p api.Plan, n int) (l []api.Event) {
	now := -15
	for range n {
		v := api.Event{Kind: api.RowEvent, Side: 1 + d.n(2), Time: now + d.n(11) - 5}
		switch d.n(12) {
		case 0, 1:
			v.Kind = api.MarkEvent
			v.Time -= 3
		case 2:
			v.Row = d.row()
		default:
			v.Row = d.rowOf(p, v.Side)
		}
		l = append(l, v)
		now += d.n(2)
	}
	return l
}

// mixed is the events of both sides, each side's own in their order.
func (d *draw) mixed(l []api.Event, lefts int) (mix []api.Event) {
	var side [3][]api.Event
	for _, v := range l {
		side[v.Side] = append(side[v.Side], v)
	}
	for len(side[1])+len(side[2]) > 0 {
		from := api.Right
		if len(side[2]) == 0 || len(side[1]) > 0 && d.n(10) < lefts {
			from = api.Left
		}
		mix, side[from] = append(mix, side[from][0]), side[from][1:]
	}
	return mix
}

// joined is the rows of a side that were not passed over.
func joined(l []api.Event, side int, passed []int) (rows []api.Stamped) {
	for at, v := range l {
		if v.Kind == api.RowEvent && v.Side == side && !slices.Contains(passed, at) {
			rows = append(rows, api.Stamped{Time: v.Time, Row: v.Row})
		}
	}
	return rows
}

// shown is what a thing is shown as.
func shown[T any](t *testing.T, show func(T) (string, api.Errno), x T) string {
	t.Helper()
	s, e := show(x)
	if e != api.OK {
		t.Fatalf("%v is not shown: %d", x, e)
	}
	return s
}

// told is what a script answers.
func told(t *testing.T, script string) string {
	t.Helper()
	return shown(t, desk.Play, script)
}

func planShown(t *testing.T, p api.Plan) string   { t.Helper(); return shown(t, desk.ShowPlan, p) }
func eventShown(t *testing.T, v api.Event) string { t.Helper(); return shown(t, desk.ShowEvent, v) }
func rowShown(t *testing.T, r []api.Value) string { t.Helper(); return shown(t, desk.ShowRow, r) }
