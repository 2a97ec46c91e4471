package engine

import (
	"math"
	"slices"
	"testing"

	"meetwater/api"
	"meetwater/batch"
	"meetwater/change"
	"meetwater/group"
	"meetwater/join"
	"meetwater/plan"
)

func null() api.Value         { return api.Value{} }
func flag(n int) api.Value    { return api.Value{Kind: api.Bool, N: n} }
func num(n int) api.Value     { return api.Value{Kind: api.Int, N: n} }
func word(s string) api.Value { return api.Value{Kind: api.Text, S: s} }

// ints is a row of Ints.
func ints(ns ...int) (row []api.Value) {
	for _, n := range ns {
		row = append(row, num(n))
	}
	return row
}

func left(time int, cells ...api.Value) api.Event {
	return api.Event{Kind: api.RowEvent, Side: api.Left, Time: time, Row: cells}
}

func right(time int, cells ...api.Value) api.Event {
	return api.Event{Kind: api.RowEvent, Side: api.Right, Time: time, Row: cells}
}

func mark(side, time int) api.Event { return api.Event{Kind: api.MarkEvent, Side: side, Time: time} }

// planOf is a plan of two Ints on each side, met by the first.
func planOf(kind, mode int) api.Plan {
	two := []int{api.Int, api.Int}
	p := api.Plan{Kind: kind, Mode: mode, Limit: 2, Left: two, Right: two, LKeys: []int{0}, RKeys: []int{0}}
	switch kind {
	case api.Interval:
		p.Low, p.High = -5, 5
	case api.Window:
		p.Size = 10
	}
	return p
}

func grouped(p api.Plan, group []int, aggs ...api.Agg) api.Plan {
	p.Grouped, p.Group, p.Aggs = true, group, aggs
	return p
}

// figured groups a plan by its first column, with all figures.
func figured(p api.Plan) api.Plan {
	return grouped(p, []int{0}, api.Agg{Fn: api.CountOf}, api.Agg{Fn: api.SumOf, Col: 1}, api.Agg{Fn: api.MinOf, Col: 3}, api.Agg{Fn: api.MaxOf, Col: 3})
}

// allPlans is a plan of each kind and mode, not grouped and grouped in two ways.
func allPlans() (l []api.Plan) {
	for _, kind := range []int{api.Interval, api.Window, api.Temporal} {
		for mode := api.Inner; mode <= api.FullOuter; mode++ {
			if kind != api.Temporal || mode <= api.LeftOuter {
				p := planOf(kind, mode)
				l = append(l, p, figured(p), grouped(p, nil, api.Agg{Fn: api.SumOf, Col: 3}))
			}
		}
	}
	return l
}

func sameEntry(a, b api.Entry) bool {
	return a.Key == b.Key && a.Time == b.Time && a.Seq == b.Seq && a.Met == b.Met && slices.Equal(a.Row, b.Row)
}

func sameEntries(a, b []api.Entry) bool { return slices.EqualFunc(a, b, sameEntry) }

func sameBuffer(a, b api.Buffer) bool {
	return a.Limit == b.Limit && sameEntries(a.Mem, b.Mem) && slices.EqualFunc(a.Runs, b.Runs, sameEntries)
}

func sameJoin(a, b api.Join) bool {
	return sameBuffer(a.Left, b.Left) && sameBuffer(a.Right, b.Right) && a.LMark == b.LMark && a.RMark == b.RMark && a.Seq == b.Seq
}

func sameGroup(a, b api.Group) bool {
	return a.N == b.N && slices.Equal(a.Row, b.Row) && slices.EqualFunc(a.Bags, b.Bags, func(x, y []api.Tally) bool { return slices.Equal(x, y) })
}

func sameGroups(a, b []api.Group) bool { return slices.EqualFunc(a, b, sameGroup) }

func sameView(a, b []api.Count) bool {
	return slices.EqualFunc(a, b, func(x, y api.Count) bool { return x.N == y.N && slices.Equal(x.Row, y.Row) })
}

func sameChanges(a, b []api.Change) bool {
	return slices.EqualFunc(a, b, func(x, y api.Change) bool { return x.Kind == y.Kind && slices.Equal(x.Row, y.Row) })
}

func same(a, b api.Engine) bool {
	return sameJoin(a.Join, b.Join) && sameGroups(a.Groups, b.Groups) && sameView(a.View, b.View)
}

// isNone tells whether an engine is the zero value that stands beside an error.
func isNone(e api.Engine) bool { return same(e, api.Engine{}) }

func mustStart(t *testing.T, p api.Plan) api.Engine {
	t.Helper()
	s, e := Start(p)
	if e != api.OK {
		t.Fatalf("Start: %d", e)
	}
	return s
}

// played is the engine behind events that all can be stepped.
func played(t *testing.T, p api.Plan, l ...api.Event) api.Engine {
	t.Helper()
	s, _, passed, e := Play(p, l)
	if e != api.OK || len(passed) > 0 {
		t.Fatalf("Play: %d, %v were passed over", e, passed)
	}
	return s
}

// some is events of which rows wait, meet, and are grouped.
func some() []api.Event {
	return []api.Event{left(1, ints(7, 1)...), right(2, ints(7, 2)...), left(0, ints(7, 4)...), right(3, ints(8, 5)...), left(2, null(), num(1)), left(3, ints(6, 6)...), mark(api.Left, -3), right(9, ints(9, 9)...)}
}

func TestStart(t *testing.T) { // I1
	for _, p := range allPlans() {
		want, _ := join.Start(p)
		if s, e := Start(p); e != api.OK || !same(s, api.Engine{Join: want}) || Check(p, s) != api.OK {
			t.Errorf("Start of %v is %v %d", p, s, e)
		}
	}
}

func TestWrongPlans(t *testing.T) { // I1, I2, I3, P1: the plan's error is told ahead of all others
	for _, spoil := range []func(p *api.Plan){
		func(p *api.Plan) { p.Kind = 0 },
		func(p *api.Plan) { p.Aggs = []api.Agg{{Fn: 7}} },
		func(p *api.Plan) { p.Limit = api.MaxLimit + 1 },
		func(p *api.Plan) { p.Aggs = nil },
		func(p *api.Plan) { p.Left = []int{0, api.Int} },
		func(p *api.Plan) { p.Group = []int{4} },
	} {
		p := figured(planOf(api.Interval, api.FullOuter))
		spoil(&p)
		want := plan.Check(p)
		s0, e0 := Start(p)
		e1 := Check(p, api.Engine{})
		s2, out2, e2 := Step(p, api.Engine{}, api.Event{})
		s3, out3, passed3, e3 := Play(p, make([]api.Event, api.MaxEvents+1))
		if want == api.OK || e0 != want || e1 != want || e2 != want || e3 != want {
			t.Errorf("%v: %d %d %d %d and must be %d", p, e0, e1, e2, e3, want)
		}
		if !isNone(s0) || !isNone(s2) || !isNone(s3) || len(out2)+len(out3)+len(passed3) > 0 {
			t.Errorf("%v: something is told beside an error", p)
		}
	}
}

func count(n int, cells ...api.Value) api.Count { return api.Count{Row: cells, N: n} }

func TestCheck(t *testing.T) { // I1: each error, and which is told first
	plain := planOf(api.Interval, api.FullOuter)
	by := figured(plain)
	wide := make([]api.Count, api.MaxRows+1)
	for name, c := range map[string]struct {
		p    api.Plan
		do   func(e *api.Engine)
		want api.Errno
	}{
		"right":                       {plain, func(e *api.Engine) {}, api.OK},
		"right, grouped":              {by, func(e *api.Engine) {}, api.OK},
		"nothing":                     {plain, func(e *api.Engine) { *e = api.Engine{} }, api.ErrRange},
		"the join's error":            {plain, func(e *api.Engine) { e.Join.Seq = -1; e.Groups = make([]api.Group, 1); e.View = wide }, api.ErrRange},
		"the join's form":             {by, func(e *api.Engine) { e.Join.Left.Limit = 3; e.Groups = make([]api.Group, api.MaxRows+1) }, api.ErrForm},
		"groups, and not grouped":     {plain, func(e *api.Engine) { e.Groups = []api.Group{{N: 1}}; e.View = wide }, api.ErrForm},
		"no groups, not nil":          {plain, func(e *api.Engine) { e.Groups = []api.Group{} }, api.OK},
		"groups' number":              {by, func(e *api.Engine) { e.Groups = make([]api.Group, api.MaxRows+1); e.View = []api.Count{{}} }, api.ErrMany},
		"groups' form":                {by, func(e *api.Engine) { e.Groups[0].N++; e.View = wide }, api.ErrForm},
		"groups, and another view":    {by, func(e *api.Engine) { e.View = nil }, api.OK},
		"a view of too many":          {plain, func(e *api.Engine) { e.View = wide }, api.ErrMany},
		"a view that is not right":    {plain, func(e *api.Engine) { e.View = []api.Count{count(0, num(1))} }, api.ErrForm},
		"a view that falls":           {plain, func(e *api.Engine) { slices.Reverse(e.View) }, api.ErrForm},
		"a cell that is no value":     {plain, func(e *api.Engine) { e.View = []api.Count{count(1, flag(2), null(), null(), null())} }, api.ErrForm},
		"no view":                     {plain, func(e *api.Engine) { e.View = nil }, api.OK},
		"a cell less":                 {plain, func(e *api.Engine) { e.View = []api.Count{count(1, ints(1, 2, 3)...)} }, api.ErrMany},
		"a cell more":                 {plain, func(e *api.Engine) { e.View = []api.Count{count(1, ints(1, 2, 3, 4, 5)...)} }, api.ErrMany},
		"as many as come in, grouped": {by, func(e *api.Engine) { e.View = []api.Count{count(1, ints(1, 2, 3, 4)...)} }, api.ErrMany},
		"as many as come out":         {by, func(e *api.Engine) { e.View = []api.Count{count(1, ints(1, 2, 3, 4, 5)...)} }, api.OK},
		"no cells":                    {plain, func(e *api.Engine) { e.View = []api.Count{{N: 1}} }, api.ErrMany},
		"another type":                {plain, func(e *api.Engine) { e.View = []api.Count{count(1, num(1), null(), flag(1), null())} }, api.ErrType},
		"another type, grouped":       {by, func(e *api.Engine) { e.View = []api.Count{count(1, num(1), word("a"), null(), null(), null())} }, api.ErrType},
		"a later row of another type": {plain, func(e *api.Engine) { e.View = append(e.View, count(1, word("a"), null(), null(), null())) }, api.ErrType},
		"ErrMany of a later one is first": {plain, func(e *api.Engine) {
			e.View = []api.Count{count(1, word("a"), null(), null(), null()), count(1, word("b"))}
		}, api.ErrMany},
		"Nulls": {plain, func(e *api.Engine) { e.View = []api.Count{count(3, null(), null(), null(), null())} }, api.OK},
	} {
		e := played(t, c.p, some()...)
		c.do(&e)
		if got := Check(c.p, e); got != c.want {
			t.Errorf("%s: %d and must be %d", name, got, c.want)
		}
		if next, out, f := Step(c.p, e, api.Event{}); c.want != api.OK && (f != c.want || !isNone(next) || len(out) > 0) {
			t.Errorf("%s: Step is %v %v %d and must tell %d first", name, next, out, f, c.want)
		}
	}
}

func TestCheckAsksWhatComesOut(t *testing.T) { // I1: the types of figures are not those of joined rows
	p := planOf(api.Interval, api.Inner)
	p.Left, p.LKeys, p.RKeys = []int{api.Int, api.Text}, []int{0}, []int{0}
	p = grouped(p, []int{1}, api.Agg{Fn: api.CountOf}, api.Agg{Fn: api.MaxOf, Col: 1})
	e := mustStart(t, p)
	e.View = []api.Count{count(1, word("a"), num(1), word("a"))}
	if f := Check(p, e); f != api.OK {
		t.Errorf("a Text, an Int, a Text: %d", f)
	}
	e.View = []api.Count{count(1, num(1), word("a"), word("a"))}
	if f := Check(p, e); f != api.ErrType {
		t.Errorf("an Int, a Text, a Text: %d", f)
	}
}

func insert(cells ...api.Value) []api.Change { return []api.Change{{Kind: api.Insert, Row: cells}} }

func turn(before, after []api.Value) []api.Change {
	return []api.Change{{Kind: api.Before, Row: before}, {Kind: api.After, Row: after}}
}

func TestExamples(t *testing.T) { // I2: examples 5, 7 and 8 of the document
	p := planOf(api.Interval, api.FullOuter)
	by := grouped(p, []int{0}, api.Agg{Fn: api.CountOf}, api.Agg{Fn: api.SumOf, Col: 1})
	alone := append(ints(7, 1), null(), null())
	for name, c := range map[string]struct {
		p    api.Plan
		l    []api.Event
		out  [][]api.Change
		view []api.Count
	}{
		"not grouped": {p, []api.Event{left(1, ints(7, 1)...), right(2, ints(7, 2)...), right(9, ints(7, 3)...), mark(api.Right, 20)},
			[][]api.Change{insert(alone...), turn(alone, ints(7, 1, 7, 2)), insert(null(), null(), num(7), num(3)), nil},
			[]api.Count{count(1, null(), null(), num(7), num(3)), count(1, ints(7, 1, 7, 2)...)}},
		"grouped": {by, []api.Event{left(1, ints(7, 1)...), right(2, ints(7, 2)...), mark(api.Left, -9), left(0, ints(7, 4)...)},
			[][]api.Change{insert(ints(7, 1, 1)...), nil, nil, turn(ints(7, 1, 1), ints(7, 2, 5))},
			[]api.Count{count(1, ints(7, 2, 5)...)}},
	} {
		s := mustStart(t, c.p)
		for i, v := range c.l {
			next, out, e := Step(c.p, s, v)
			if e != api.OK || !sameChanges(out, c.out[i]) || Check(c.p, next) != api.OK {
				t.Fatalf("%s, event %d: %v %d and must be %v", name, i, out, e, c.out[i])
			}
			s = next
		}
		if !sameView(s.View, c.view) {
			t.Errorf("%s: %v and must be %v", name, s.View, c.view)
		}
	}
}

func TestStepIsItsParts(t *testing.T) { // I2: the join's step, the groups' of what comes of it, the view
	d := draw(31)
	for _, p := range allPlans() {
		s := mustStart(t, p)
		for _, v := range d.script(80) {
			next, out, e := Step(p, s, v)
			joined, told, want := join.Step(p, s.Join, v)
			if want != api.OK {
				if e != want || !isNone(next) || len(out) > 0 {
					t.Fatalf("%v, %v: %v %v %d and must be %d", p, v, next, out, e, want)
				}
				continue
			}
			made := api.Engine{Join: joined}
			if p.Grouped {
				made.Groups, told, want = group.Step(p, s.Groups, told)
			}
			made.View, _, _ = change.Fold(s.View, told)
			if e != want || !same(next, made) || !sameChanges(out, told) || Check(p, next) != api.OK {
				t.Fatalf("%v, %v: %v %v %d and must be %v %v %d", p, v, next, out, e, made, told, want)
			}
			s = next
		}
	}
}

// with is an engine behind some events, and something else in it.
func with(t *testing.T, p api.Plan, do func(e *api.Engine)) api.Engine {
	e := played(t, p, some()...)
	do(&e)
	return e
}

func TestStepErrors(t *testing.T) { // I2, P1: those of the parts, in their order
	p := planOf(api.Interval, api.FullOuter)
	by := grouped(p, []int{0}, api.Agg{Fn: api.CountOf})
	lone := append(ints(6, 6), null(), null())
	for name, c := range map[string]struct {
		p    api.Plan
		e    api.Engine
		v    api.Event
		want api.Errno
	}{
		"the join's ErrKind":        {p, with(t, p, func(e *api.Engine) {}), api.Event{}, api.ErrKind},
		"the join's ErrRange":       {by, with(t, by, func(e *api.Engine) {}), left(math.MaxInt, ints(1, 1)...), api.ErrRange},
		"the join's ErrLate":        {p, with(t, p, func(e *api.Engine) {}), left(-3, ints(1, 1)...), api.ErrLate},
		"the join's ErrBack":        {p, with(t, p, func(e *api.Engine) {}), mark(api.Left, -4), api.ErrBack},
		"the join's ErrMany":        {p, with(t, p, func(e *api.Engine) { e.Join.Seq = api.MaxSeq }), left(1, ints(1, 1)...), api.ErrMany},
		"it goes, and is not there": {p, with(t, p, func(e *api.Engine) { e.View = nil }), right(4, ints(6, 1)...), api.ErrNone},
		"and so of groups":          {by, with(t, by, func(e *api.Engine) { e.Groups = nil }), right(4, ints(6, 1)...), api.ErrNone},
		"a view as often as may be": {p, with(t, p, func(e *api.Engine) { e.View = []api.Count{count(api.MaxCount, append(ints(5, 5), null(), null())...)} }), left(1, ints(5, 5)...), api.ErrMany},
		"groups as many as may be":  {by, with(t, by, func(e *api.Engine) { e.Groups = manyGroups(); e.View = nil }), left(1, ints(-5, 5)...), api.ErrMany},
		"the view's, of groups":     {by, with(t, by, func(e *api.Engine) { e.View = nil }), right(4, ints(7, 1)...), api.ErrNone},
		"a view of MaxRows":         {p, with(t, p, func(e *api.Engine) { e.View = manyRows() }), left(1, ints(-5, 5)...), api.ErrMany},
		"one that is there":         {p, with(t, p, func(e *api.Engine) { e.View = manyRows() }), left(1, ints(5, 5)...), api.OK},
		"a mark asks for nothing":   {p, with(t, p, func(e *api.Engine) { e.View = nil }), mark(api.Right, 99), api.OK},
		"as it must be":             {p, with(t, p, func(e *api.Engine) { e.View = []api.Count{count(1, lone...)} }), right(4, ints(6, 1)...), api.OK},
	} {
		if f := Check(c.p, c.e); f != api.OK {
			t.Fatalf("%s: Check is %d", name, f)
		}
		next, out, f := Step(c.p, c.e, c.v)
		if f != c.want || f != api.OK && (!isNone(next) || len(out) > 0) {
			t.Errorf("%s: %v %v %d and must be %d", name, next, out, f, c.want)
		}
	}
}

// manyGroups is as many groups as there may be, of a plan that counts.
func manyGroups() (g []api.Group) {
	for i := range api.MaxRows {
		g = append(g, api.Group{Row: ints(i), N: 1, Bags: [][]api.Tally{nil}})
	}
	return g
}

// manyRows is as many rows as a view may have.
func manyRows() (v []api.Count) {
	for i := range api.MaxRows {
		v = append(v, count(1, append(ints(i, 5), null(), null())...))
	}
	return v
}

func TestTooManyChanges(t *testing.T) { // I2: what the join tells at one time may be more than a list of changes has
	p := planOf(api.Interval, api.LeftOuter)
	p.High = 5000
	e := mustStart(t, p)
	for n, want := range map[int]api.Errno{api.MaxRows / 2: api.OK, api.MaxRows/2 + 1: api.ErrMany} {
		var l []api.Entry
		for i := range n {
			key, _, _ := plan.KeyOf(p, api.Left, ints(7, 5))
			l = append(l, api.Entry{Key: key, Time: i, Seq: i, Row: ints(7, 5)})
		}
		e.Join.Left.Runs, e.Join.Seq = [][]api.Entry{l}, n
		e.View = []api.Count{count(n, append(ints(7, 5), null(), null())...)}
		next, out, f := Step(p, e, right(n, ints(7, 1)...))
		if f != want || f == api.OK && (len(out) != api.MaxRows || !sameView(next.View, []api.Count{count(n, ints(7, 5, 7, 1)...)})) || f != api.OK && (!isNone(next) || len(out) > 0) {
			t.Errorf("%d partners: %d changes, %v, %d and must be %d", n, len(out), next.View, f, want)
		}
		by := grouped(p, nil, api.Agg{Fn: api.CountOf})
		e.Groups = []api.Group{{N: n, Bags: [][]api.Tally{nil}}}
		e.View = []api.Count{count(1, num(n))}
		if _, out, f := Step(by, e, right(n, ints(7, 1)...)); f != want || len(out) > 0 {
			t.Errorf("%d partners, grouped: %v %d and must be %d", n, out, f, want)
		}
		e.Groups = nil
	}
}

// draw gives numbers that are the same each time.
type draw uint64

func (d *draw) n(n int) int {
	*d = *d*6364136223846793005 + 1442695040888963407
	return int(uint64(*d) >> 33 % uint64(n))
}

// script is events whose times go on slowly; a few of them are wrong, or late.
func (d *draw) script(n int) (l []api.Event) {
	now := -10
	for range n {
		e := api.Event{Kind: api.RowEvent, Side: 1 + d.n(2), Time: now + d.n(11) - 5, Row: ints(d.n(3), d.n(3))}
		switch d.n(20) {
		case 0, 1, 2:
			e.Kind, e.Row = api.MarkEvent, nil
			e.Time -= 3
		case 3:
			e.Row[0] = null()
		case 4, 5:
			e.Row[1] = null()
		case 6:
			e.Row[d.n(2)] = word("a")
		}
		l = append(l, e)
		now += d.n(2)
	}
	return l
}

// stamped is the rows of a side that were not passed over.
func stamped(side int, l []api.Event, passed []int) (rows []api.Stamped) {
	for i, e := range l {
		if e.Kind == api.RowEvent && e.Side == side && !slices.Contains(passed, i) {
			rows = append(rows, api.Stamped{Time: e.Time, Row: e.Row})
		}
	}
	return rows
}

func TestTheViewIsAll(t *testing.T) { // I4: at each moment, and what came out makes it
	d := draw(32)
	for _, p := range allPlans() {
		for range 3 {
			l := d.script(60)
			s := mustStart(t, p)
			var view []api.Count
			var passed []int
			for i, v := range l {
				next, out, e := Step(p, s, v)
				if e != api.OK {
					passed = append(passed, i)
					continue
				}
				s = next
				view, _, _ = change.Fold(view, out)
				want, f := batch.All(p, stamped(api.Left, l[:i+1], passed), stamped(api.Right, l[:i+1], passed))
				if f != api.OK || !sameView(s.View, want) || !sameView(view, want) {
					t.Fatalf("%v, event %d: %v, made %v, and must be %v %d", p, i, s.View, view, want, f)
				}
			}
		}
	}
}

func TestMixingChangesNothing(t *testing.T) { // I4: each side's own stand in one order
	d := draw(33)
	for _, p := range allPlans() {
		for range 2 {
			l := d.script(70)
			first, _, _, e := Play(p, l)
			var side [3][]api.Event
			for _, v := range l {
				side[v.Side] = append(side[v.Side], v)
			}
			mixes := [][]api.Event{slices.Concat(side[1], side[2]), slices.Concat(side[2], side[1])}
			for range 3 {
				a, b := side[1], side[2]
				var mix []api.Event
				for len(a)+len(b) > 0 {
					if len(b) == 0 || len(a) > 0 && d.n(2) == 0 {
						mix, a = append(mix, a[0]), a[1:]
					} else {
						mix, b = append(mix, b[0]), b[1:]
					}
				}
				mixes = append(mixes, mix)
			}
			for _, mix := range mixes {
				s, out, _, f := Play(p, mix)
				made, _, g := change.Fold(nil, out)
				if e != api.OK || f != api.OK || g != api.OK || !sameView(s.View, first.View) || !sameView(made, first.View) {
					t.Fatalf("%v: %v %d %d %d and must be %v", p, s.View, e, f, g, first.View)
				}
			}
		}
	}
}

func TestPlay(t *testing.T) { // I3: event by event, and who is passed over
	d := draw(34)
	for _, p := range allPlans() {
		l := append(d.script(60), api.Event{}, left(0), mark(api.Left, 99), mark(api.Left, 98), left(99, ints(1, 1)...))
		s := mustStart(t, p)
		var out []api.Change
		var passed []int
		for i, v := range l {
			next, some, f := Step(p, s, v)
			if f != api.OK {
				passed = append(passed, i)
				continue
			}
			s = next
			out = append(out, some...)
		}
		s2, out2, passed2, e := Play(p, l)
		if e != api.OK || !same(s, s2) || !sameChanges(out, out2) || !slices.Equal(passed, passed2) || len(passed) < 4 {
			t.Fatalf("%v: %v %v %v %d and must be %v %v %v", p, s2, out2, passed2, e, s, out, passed)
		}
	}
}

func TestPlayBounds(t *testing.T) { // I3, P1
	p := figured(planOf(api.Window, api.FullOuter))
	for _, l := range [][]api.Event{nil, {}} {
		if s, out, passed, e := Play(p, l); e != api.OK || !same(s, mustStart(t, p)) || len(out)+len(passed) > 0 {
			t.Errorf("nothing is played: %v %v %v %d", s, out, passed, e)
		}
	}
	many := slices.Repeat([]api.Event{left(1, ints(7, 1)...)}, api.MaxEvents+1)
	if s, out, passed, e := Play(p, many); e != api.ErrMany || !isNone(s) || len(out)+len(passed) > 0 {
		t.Errorf("too many: %v %v %v %d", s, out, passed, e)
	}
	want := []api.Count{count(1, num(7), num(api.MaxEvents), num(api.MaxEvents), null(), null())}
	if s, _, passed, e := Play(p, many[1:]); e != api.OK || !sameView(s.View, want) || len(passed) > 0 {
		t.Errorf("as many as may be: %v %v %d", s.View, passed, e)
	}
}

func deepEntries(l []api.Entry) []api.Entry {
	out := slices.Clone(l)
	for i := range out {
		out[i].Row = slices.Clone(out[i].Row)
	}
	return out
}

func deepBuffer(b api.Buffer) api.Buffer {
	b.Mem, b.Runs = deepEntries(b.Mem), slices.Clone(b.Runs)
	for i := range b.Runs {
		b.Runs[i] = deepEntries(b.Runs[i])
	}
	return b
}

func deep(e api.Engine) api.Engine {
	e.Join.Left, e.Join.Right = deepBuffer(e.Join.Left), deepBuffer(e.Join.Right)
	e.Groups, e.View = slices.Clone(e.Groups), slices.Clone(e.View)
	for i := range e.Groups {
		x := &e.Groups[i]
		x.Row, x.Bags = slices.Clone(x.Row), slices.Clone(x.Bags)
		for j := range x.Bags {
			x.Bags[j] = slices.Clone(x.Bags[j])
		}
	}
	for i := range e.View {
		e.View[i].Row = slices.Clone(e.View[i].Row)
	}
	return e
}

func fill[T any](l []T, with T) {
	l = l[:cap(l)]
	for i := range l {
		l[i] = with
	}
}

// pieces is the rows and bags of an answer, each a call that writes over it and
// the room behind it, and last the lists of these.
func pieces(e api.Engine, out []api.Change) (spoil []func()) {
	row := func(row []api.Value) {
		spoil = append(spoil, func() { fill(row, num(-99)) })
	}
	for _, b := range []api.Buffer{e.Join.Left, e.Join.Right} {
		for _, part := range append([][]api.Entry{b.Mem}, b.Runs...) {
			for _, x := range part {
				row(x.Row)
			}
		}
	}
	for _, x := range e.Groups {
		row(x.Row)
		for _, bag := range x.Bags {
			spoil = append(spoil, func() { fill(bag, api.Tally{N: -99}) })
		}
	}
	for _, c := range e.View {
		row(c.Row)
	}
	for _, c := range out {
		row(c.Row)
	}
	return append(spoil,
		func() { fill(e.Join.Left.Mem, api.Entry{}) }, func() { fill(e.Join.Left.Runs, nil) },
		func() { fill(e.Join.Right.Mem, api.Entry{}) }, func() { fill(e.Join.Right.Runs, nil) },
		func() { fill(e.Groups, api.Group{}) }, func() { fill(e.View, api.Count{}) }, func() { fill(out, api.Change{}) })
}

// parts is an answer's parts as they are told apart by whoever spoils one.
func parts(e api.Engine, out []api.Change) (rows [][]api.Value, bags [][]api.Tally) {
	for _, b := range []api.Buffer{e.Join.Left, e.Join.Right} {
		for _, part := range append([][]api.Entry{b.Mem}, b.Runs...) {
			for _, x := range part {
				rows = append(rows, x.Row)
			}
		}
	}
	for _, x := range e.Groups {
		rows = append(rows, x.Row)
		bags = append(bags, x.Bags...)
	}
	for _, c := range e.View {
		rows = append(rows, c.Row)
	}
	for _, c := range out {
		rows = append(rows, c.Row)
	}
	return rows, bags
}

func TestMemory(t *testing.T) { // P2: what is handed in is only read, and no list of an answer is another one of it, or the caller's
	for _, p := range allPlans() {
		own := append(ints(7, 2), num(77))
		s := played(t, p, some()...)
		was, wasOwn := deep(s), slices.Clone(own)
		for _, v := range []api.Event{left(1, own[:2]...), right(1, own[:2]...), right(4, null(), num(3)), left(2, ints(5, 5)...), mark(api.Left, 5), mark(api.Right, 6)} {
			ask := func() (api.Engine, []api.Change) {
				next, out, e := Step(p, s, v)
				if e != api.OK {
					t.Fatalf("%v: %d", v, e)
				}
				return next, out
			}
			want, wantOut := ask()
			for i := range pieces(want, wantOut) {
				next, out := ask()
				rows, bags := parts(next, out)
				pieces(next, out)[i]()
				if !same(s, was) || !slices.Equal(own, wasOwn) {
					t.Fatalf("%v: piece %d of the answer is the caller's", v, i)
				}
				if n := spoilt(rows, bags, want, wantOut); n > 1 {
					t.Fatalf("%v: with piece %d %d others change", v, i, n)
				}
			}
		}
	}
}

// spoilt is how many rows and bags are not as they are in an answer made alike.
func spoilt(rows [][]api.Value, bags [][]api.Tally, e api.Engine, out []api.Change) (n int) {
	wantRows, wantBags := parts(e, out)
	for i := range rows {
		if !slices.Equal(rows[i], wantRows[i]) {
			n++
		}
	}
	for i := range bags {
		if !slices.Equal(bags[i], wantBags[i]) {
			n++
		}
	}
	return n
}

func TestAnswersHangOnWhatIsHandedIn(t *testing.T) { // P3
	for _, p := range allPlans() {
		first, out, passed, _ := Play(p, some())
		for range 3 {
			Play(p, some()[2:])
			again, out2, passed2, e := Play(p, some())
			if e != api.OK || !same(first, again) || !sameChanges(out, out2) || !slices.Equal(passed, passed2) {
				t.Fatal("the same was asked, and the answers are not the same")
			}
		}
	}
}
