package group

import (
	"math"
	"reflect"
	"slices"
	"strings"
	"testing"

	"meetwater/api"
	"meetwater/batch"
	"meetwater/change"
	"meetwater/plan"
	"meetwater/value"
)

func null() api.Value         { return api.Value{} }
func flag(n int) api.Value    { return api.Value{Kind: api.Bool, N: n} }
func num(n int) api.Value     { return api.Value{Kind: api.Int, N: n} }
func word(s string) api.Value { return api.Value{Kind: api.Text, S: s} }

func row(cells ...api.Value) []api.Value { return cells }

// ints is a row of Ints.
func ints(ns ...int) (row []api.Value) {
	for _, n := range ns {
		row = append(row, num(n))
	}
	return row
}

// planOf is a grouped plan whose joined rows are an Int, a Text, a Bool and an Int.
func planOf(group []int, aggs ...api.Agg) api.Plan {
	return api.Plan{
		Kind: api.Interval, Mode: api.FullOuter, Limit: 2,
		Left: []int{api.Int, api.Text}, Right: []int{api.Bool, api.Int}, LKeys: []int{0}, RKeys: []int{1},
		Grouped: true, Group: group, Aggs: aggs,
	}
}

// allFigures is by the Text: how many, the sum of the last Int, the least first
// Int, the greatest Bool.
func allFigures() api.Plan {
	return planOf([]int{1}, api.Agg{Fn: api.CountOf}, api.Agg{Fn: api.SumOf, Col: 3}, api.Agg{Fn: api.MinOf}, api.Agg{Fn: api.MaxOf, Col: 2})
}

func tally(v api.Value, n int) api.Tally { return api.Tally{Value: v, N: n} }
func bag(l ...api.Tally) []api.Tally     { return l }

// sample is right groups of allFigures.
func sample() []api.Group {
	return []api.Group{
		{Row: row(null()), N: 1, Bags: [][]api.Tally{nil, bag(tally(null(), 1)), bag(tally(num(4), 1)), bag(tally(flag(0), 1))}},
		{Row: row(word("a")), N: 5, Bags: [][]api.Tally{{}, bag(tally(null(), 1), tally(num(-2), 3), tally(num(9), 1)), bag(tally(num(1), 2), tally(num(2), 3)), bag(tally(null(), 5))}},
		{Row: row(word("b")), N: 2, Bags: [][]api.Tally{nil, bag(tally(num(3), 2)), bag(tally(null(), 1), tally(num(0), 1)), bag(tally(flag(0), 1), tally(flag(1), 1))}},
	}
}

func sampleView() []api.Count {
	return []api.Count{
		{Row: row(null(), num(1), null(), num(4), flag(0)), N: 1},
		{Row: row(word("a"), num(5), num(3), num(1), null()), N: 1},
		{Row: row(word("b"), num(2), num(6), num(0), flag(1)), N: 1},
	}
}

func come(cells ...api.Value) api.Change { return api.Change{Kind: api.Insert, Row: cells} }
func leave(cells ...api.Value) api.Change {
	return api.Change{Kind: api.Delete, Row: cells}
}

// turn is a Before and an After.
func turn(before, after []api.Value) []api.Change {
	return []api.Change{{Kind: api.Before, Row: before}, {Kind: api.After, Row: after}}
}

func sameBag(a, b []api.Tally) bool { return slices.Equal(a, b) }

func sameGroup(a, b api.Group) bool {
	return a.N == b.N && slices.Equal(a.Row, b.Row) && slices.EqualFunc(a.Bags, b.Bags, sameBag)
}

func sameGroups(a, b []api.Group) bool { return slices.EqualFunc(a, b, sameGroup) }

func sameView(a, b []api.Count) bool {
	return slices.EqualFunc(a, b, func(x, y api.Count) bool { return x.N == y.N && slices.Equal(x.Row, y.Row) })
}

func sameChanges(a, b []api.Change) bool {
	return slices.EqualFunc(a, b, func(x, y api.Change) bool { return x.Kind == y.Kind && slices.Equal(x.Row, y.Row) })
}

func deep(g []api.Group) []api.Group {
	out := slices.Clone(g)
	for i := range out {
		out[i].Row, out[i].Bags = slices.Clone(out[i].Row), slices.Clone(out[i].Bags)
		for j := range out[i].Bags {
			out[i].Bags[j] = slices.Clone(out[i].Bags[j])
		}
	}
	return out
}

// many is n groups of a plan that counts by the first Int.
func many(n int) (g []api.Group) {
	for i := range n {
		g = append(g, api.Group{Row: ints(i), N: 1, Bags: [][]api.Tally{nil}})
	}
	return g
}

func TestCheck(t *testing.T) { // H1
	long := word(strings.Repeat("x", api.MaxText+1))
	for name, c := range map[string]struct {
		do   func(g []api.Group) []api.Group
		want api.Errno
	}{
		"right":                       {func(g []api.Group) []api.Group { return g }, api.OK},
		"none":                        {func(g []api.Group) []api.Group { return nil }, api.OK},
		"none, not nil":               {func(g []api.Group) []api.Group { return []api.Group{} }, api.OK},
		"nothing in it":               {func(g []api.Group) []api.Group { return []api.Group{{}} }, api.ErrForm},
		"rows fall":                   {func(g []api.Group) []api.Group { g[1], g[2] = g[2], g[1]; return g }, api.ErrForm},
		"a row twice":                 {func(g []api.Group) []api.Group { g[2].Row = g[1].Row; return g }, api.ErrForm},
		"no cells":                    {func(g []api.Group) []api.Group { g[0].Row = nil; return g }, api.ErrForm},
		"two cells":                   {func(g []api.Group) []api.Group { g[0].Row = row(null(), null()); return g }, api.ErrForm},
		"a cell of another type":      {func(g []api.Group) []api.Group { g[0].Row = ints(1); return g }, api.ErrForm},
		"a cell that is no value":     {func(g []api.Group) []api.Group { g[0].Row = row(api.Value{N: 1}); return g }, api.ErrForm},
		"a text that is too long":     {func(g []api.Group) []api.Group { g[2].Row = row(long); return g }, api.ErrForm},
		"a text with a number":        {func(g []api.Group) []api.Group { g[2].Row[0].N = 1; return g }, api.ErrForm},
		"N is 0":                      {func(g []api.Group) []api.Group { g[0].N = 0; return g }, api.ErrForm},
		"N is 0, and nothing in bags": {func(g []api.Group) []api.Group { g[0].N, g[0].Bags = 0, make([][]api.Tally, 4); return g }, api.ErrForm},
		"N is below 0":                {func(g []api.Group) []api.Group { g[0].N = -1; return g }, api.ErrForm},
		"N is MaxCount":               {func(g []api.Group) []api.Group { return fullGroup(api.MaxCount) }, api.OK},
		"N is above MaxCount":         {func(g []api.Group) []api.Group { return fullGroup(api.MaxCount + 1) }, api.ErrForm},
		"N is the greatest number":    {func(g []api.Group) []api.Group { return fullGroup(math.MaxInt) }, api.ErrForm},
		"no bags":                     {func(g []api.Group) []api.Group { g[1].Bags = nil; return g }, api.ErrForm},
		"a bag fewer":                 {func(g []api.Group) []api.Group { g[1].Bags = g[1].Bags[:3]; return g }, api.ErrForm},
		"a bag more":                  {func(g []api.Group) []api.Group { g[1].Bags = append(g[1].Bags, nil); return g }, api.ErrForm},
		"a tally of CountOf":          {func(g []api.Group) []api.Group { g[0].Bags[0] = bag(tally(num(1), 1)); return g }, api.ErrForm},
		"a sum's bag is empty":        {func(g []api.Group) []api.Group { g[0].Bags[1] = nil; return g }, api.ErrForm},
		"a tally of another type":     {func(g []api.Group) []api.Group { g[0].Bags[1][0].Value = word("a"); return g }, api.ErrForm},
		"a least of another column's": {func(g []api.Group) []api.Group { g[0].Bags[2][0].Value = flag(1); return g }, api.ErrForm},
		"a greatest of another one's": {func(g []api.Group) []api.Group { g[0].Bags[3][0].Value = num(1); return g }, api.ErrForm},
		"a tally of a Null":           {func(g []api.Group) []api.Group { g[0].Bags[2][0].Value = null(); return g }, api.OK},
		"a tally that is no value":    {func(g []api.Group) []api.Group { g[0].Bags[3][0].Value = flag(2); return g }, api.ErrForm},
		"a tally with a text":         {func(g []api.Group) []api.Group { g[0].Bags[1][0].Value = api.Value{Kind: api.Int, S: "a"}; return g }, api.ErrForm},
		"tallies fall":                {func(g []api.Group) []api.Group { slices.Reverse(g[1].Bags[1]); return g }, api.ErrForm},
		"the last two tallies fall":   {func(g []api.Group) []api.Group { slices.Reverse(g[1].Bags[1][1:]); return g }, api.ErrForm},
		"a tally twice":               {func(g []api.Group) []api.Group { g[1].Bags[2][1].Value = num(1); return g }, api.ErrForm},
		"a tally of 0":                {func(g []api.Group) []api.Group { g[0].Bags[2] = bag(tally(num(1), 1), tally(num(2), 0)); return g }, api.ErrForm},
		"a tally below 0":             {func(g []api.Group) []api.Group { g[0].Bags[2] = bag(tally(num(1), 2), tally(num(2), -1)); return g }, api.ErrForm},
		"too few together":            {func(g []api.Group) []api.Group { g[1].Bags[1][1].N = 2; return g }, api.ErrForm},
		"too many together":           {func(g []api.Group) []api.Group { g[1].Bags[1][1].N = 4; return g }, api.ErrForm},
		"too many in the last bag":    {func(g []api.Group) []api.Group { g[2].Bags[3][1].N = 2; return g }, api.ErrForm},
		"together round the bounds":   {func(g []api.Group) []api.Group { g[2].Bags[1] = around(2); return g }, api.ErrForm},
		"below 0, then above": {func(g []api.Group) []api.Group {
			g[2].Bags[1] = bag(tally(num(1), math.MinInt), tally(num(2), math.MinInt), tally(num(3), 2))
			return g
		}, api.ErrForm},
		"a wrong one behind right one": {func(g []api.Group) []api.Group { g[2].N = 3; return g }, api.ErrForm},
	} {
		g := c.do(deep(sample()))
		if got := Check(allFigures(), g); got != c.want {
			t.Errorf("%s: %d and must be %d", name, got, c.want)
		}
	}
}

// fullGroup is a group of n rows that are all the same.
func fullGroup(n int) []api.Group {
	return []api.Group{{Row: row(word("a")), N: n, Bags: [][]api.Tally{nil, bag(tally(num(1), n)), bag(tally(num(2), n)), bag(tally(flag(1), n))}}}
}

// around is tallies whose sum, if it goes round at 64 bits, is n.
func around(n int) []api.Tally {
	return bag(tally(num(1), math.MaxInt), tally(num(2), math.MaxInt), tally(num(3), n+2))
}

func TestCheckBounds(t *testing.T) { // H1: how many groups there may be; and a plan that groups all rows together
	p := planOf([]int{0}, api.Agg{Fn: api.CountOf})
	if e := Check(p, many(api.MaxRows)); e != api.OK {
		t.Errorf("as many as may be: %d", e)
	}
	if e := Check(p, many(api.MaxRows+1)); e != api.ErrMany {
		t.Errorf("one more: %d", e)
	}
	if e := Check(p, make([]api.Group, api.MaxRows+1)); e != api.ErrMany {
		t.Errorf("ErrMany is ahead of ErrForm: %d", e)
	}
	all := planOf(nil, api.Agg{Fn: api.CountOf})
	one := api.Group{N: 1, Bags: [][]api.Tally{nil}}
	if e, f := Check(all, []api.Group{one}), Check(all, []api.Group{one, one}); e != api.OK || f != api.ErrForm {
		t.Errorf("of no columns: %d, twice: %d", e, f)
	}
	two := planOf([]int{3, 1}, api.Agg{Fn: api.CountOf})
	if e := Check(two, []api.Group{{Row: row(num(1), word("a")), N: 1, Bags: [][]api.Tally{nil}}}); e != api.OK {
		t.Errorf("of two columns, in the plan's order: %d", e)
	}
	if e := Check(two, []api.Group{{Row: row(word("a"), num(1)), N: 1, Bags: [][]api.Tally{nil}}}); e != api.ErrForm {
		t.Errorf("of two columns, in another order: %d", e)
	}
}

func TestAllTellCheckFirst(t *testing.T) { // H1, P1: ahead of what is wrong with changes
	notGrouped := planOf(nil)
	notGrouped.Grouped = false
	wrong := allFigures()
	wrong.Aggs[0].Fn = 5
	wrongChanges := []api.Change{{Kind: 9}}
	for _, c := range []struct {
		p    api.Plan
		g    []api.Group
		want api.Errno
	}{
		{wrong, make([]api.Group, api.MaxRows+1), api.ErrKind},
		{api.Plan{}, nil, plan.Check(api.Plan{})},
		{notGrouped, nil, api.ErrForm}, {notGrouped, make([]api.Group, api.MaxRows+1), api.ErrForm},
		{allFigures(), make([]api.Group, api.MaxRows+1), api.ErrMany},
		{allFigures(), []api.Group{{}}, api.ErrForm},
	} {
		e0 := Check(c.p, c.g)
		g1, told1, e1 := Step(c.p, c.g, wrongChanges)
		g2, told2, e2 := Step(c.p, c.g, nil)
		v, e3 := View(c.p, c.g)
		if e0 != c.want || e1 != c.want || e2 != c.want || e3 != c.want {
			t.Errorf("%d %d %d %d and must be %d", e0, e1, e2, e3, c.want)
		}
		if len(g1)+len(told1)+len(g2)+len(told2)+len(v) > 0 {
			t.Error("something is told beside an error")
		}
	}
}

func TestView(t *testing.T) { // H2
	if v, e := View(allFigures(), sample()); e != api.OK || !sameView(v, sampleView()) || change.Check(v) != api.OK {
		t.Errorf("%v %d", v, e)
	}
	if v, e := View(allFigures(), nil); e != api.OK || len(v) > 0 {
		t.Errorf("no groups: %v %d", v, e)
	}
	p := planOf([]int{0, 2}, api.Agg{Fn: api.MaxOf, Col: 1}, api.Agg{Fn: api.MinOf, Col: 1}, api.Agg{Fn: api.MaxOf, Col: 0})
	words := bag(tally(null(), 2), tally(word(""), 1), tally(word("a"), 1), tally(word("a\x00"), 3))
	g := []api.Group{
		{Row: row(null(), flag(1)), N: 1, Bags: [][]api.Tally{bag(tally(null(), 1)), bag(tally(word("z"), 1)), bag(tally(num(math.MinInt), 1))}},
		{Row: row(num(-1), null()), N: 7, Bags: [][]api.Tally{words, words, bag(tally(num(-1), 7))}},
		{Row: row(num(1), flag(0)), N: 3, Bags: [][]api.Tally{bag(tally(null(), 3)), bag(tally(null(), 3)), bag(tally(null(), 3))}},
	}
	want := []api.Count{
		{Row: row(null(), flag(1), null(), word("z"), num(math.MinInt)), N: 1},
		{Row: row(num(-1), null(), word("a\x00"), word(""), num(-1)), N: 1},
		{Row: row(num(1), flag(0), null(), null(), null()), N: 1},
	}
	if v, e := View(p, g); e != api.OK || !sameView(v, want) {
		t.Errorf("%v %d and must be %v", v, e, want)
	}
	if v, e := View(planOf([]int{0}, api.Agg{Fn: api.CountOf}), many(api.MaxRows)); e != api.OK || len(v) != api.MaxRows || change.Check(v) != api.OK {
		t.Errorf("as many as may be: %d %d", len(v), e)
	}
}

func TestSumsGoRound(t *testing.T) { // H2: at 64 bits
	p := planOf(nil, api.Agg{Fn: api.SumOf, Col: 0})
	for _, c := range []struct {
		bag  []api.Tally
		want api.Value
	}{
		{bag(tally(num(math.MaxInt), 2)), num(-2)},
		{bag(tally(num(math.MinInt), 2)), num(0)},
		{bag(tally(num(math.MinInt), 1), tally(num(-1), 1)), num(math.MaxInt)},
		{bag(tally(null(), 1), tally(num(math.MaxInt), api.MaxCount-1)), num(math.MaxInt - api.MaxCount + 2)},
		{bag(tally(null(), api.MaxCount)), null()},
		{bag(tally(null(), 1), tally(num(0), 1)), num(0)},
		{bag(tally(num(-3), 1), tally(num(3), 1)), num(0)},
	} {
		n := 0
		for _, x := range c.bag {
			n += x.N
		}
		v, e := View(p, []api.Group{{N: n, Bags: [][]api.Tally{c.bag}}})
		if e != api.OK || !sameView(v, []api.Count{{Row: row(c.want), N: 1}}) {
			t.Errorf("%v: %v %d and must be %v", c.bag, v, e, c.want)
		}
	}
}

func TestExample(t *testing.T) { // H3: example 8 of the document
	two := []int{api.Int, api.Int}
	p := api.Plan{Kind: api.Interval, Mode: api.FullOuter, Low: -5, High: 5, Limit: 2, Left: two, Right: two, LKeys: []int{0}, RKeys: []int{0},
		Grouped: true, Group: []int{0}, Aggs: []api.Agg{{Fn: api.CountOf}, {Fn: api.SumOf, Col: 1}}}
	g, told, e := Step(p, nil, []api.Change{come(ints(7, 1, 7, 2)...)})
	if e != api.OK || !sameChanges(told, []api.Change{come(ints(7, 1, 1)...)}) {
		t.Errorf("%v %d", told, e)
	}
	_, told, e = Step(p, g, []api.Change{come(ints(7, 4, 7, 2)...)})
	if e != api.OK || !sameChanges(told, turn(ints(7, 1, 1), ints(7, 2, 5))) {
		t.Errorf("%v %d", told, e)
	}
}

func TestStep(t *testing.T) { // H3: what becomes of groups and bags, and what is told
	a := word("a")
	for name, c := range map[string]struct {
		l    []api.Change
		do   func(g []api.Group) []api.Group
		told []api.Change
	}{
		"nothing": {nil, func(g []api.Group) []api.Group { return g }, nil},
		"a row comes": {[]api.Change{come(num(0), a, flag(1), num(9))}, func(g []api.Group) []api.Group {
			g[1].N, g[1].Bags[1][2].N = 6, 2
			g[1].Bags[2] = slices.Insert(g[1].Bags[2], 0, tally(num(0), 1))
			g[1].Bags[3] = append(g[1].Bags[3], tally(flag(1), 1))
			return g
		}, turn(row(a, num(5), num(3), num(1), null()), row(a, num(6), num(12), num(0), flag(1)))},
		"a row goes": {[]api.Change{leave(num(2), a, null(), num(9))}, func(g []api.Group) []api.Group {
			g[1].N, g[1].Bags[1], g[1].Bags[2][1].N, g[1].Bags[3][0].N = 4, g[1].Bags[1][:2], 2, 4
			return g
		}, turn(row(a, num(5), num(3), num(1), null()), row(a, num(4), num(-6), num(1), null()))},
		"one in its place": {turn(row(num(1), a, null(), null()), row(num(3), a, null(), null())), func(g []api.Group) []api.Group {
			g[1].Bags[2] = bag(tally(num(1), 1), tally(num(2), 3), tally(num(3), 1))
			return g
		}, nil},
		"one in its place, the only one": {turn(row(num(4), null(), flag(0), null()), row(num(4), null(), flag(0), num(0))), func(g []api.Group) []api.Group {
			g[0].Bags[1][0].Value = num(0)
			return g
		}, turn(row(null(), num(1), null(), num(4), flag(0)), row(null(), num(1), num(0), num(4), flag(0)))},
		"a group comes": {[]api.Change{come(num(1), word("aa"), null(), num(2))}, func(g []api.Group) []api.Group {
			return slices.Insert(g, 2, api.Group{Row: row(word("aa")), N: 1, Bags: [][]api.Tally{nil, bag(tally(num(2), 1)), bag(tally(num(1), 1)), bag(tally(null(), 1))}})
		}, []api.Change{come(word("aa"), num(1), num(2), num(1), null())}},
		"a group goes": {[]api.Change{leave(num(4), null(), flag(0), null())}, func(g []api.Group) []api.Group { return g[1:] },
			[]api.Change{leave(null(), num(1), null(), num(4), flag(0))}},
		"a group comes and goes": {[]api.Change{come(num(1), word("x"), null(), num(2)), leave(num(1), word("x"), null(), num(2))}, func(g []api.Group) []api.Group { return g }, nil},
		"a group goes and comes": {[]api.Change{leave(num(4), null(), flag(0), null()), come(num(5), null(), flag(0), null())}, func(g []api.Group) []api.Group {
			g[0].Bags[2][0].Value = num(5)
			return g
		}, turn(row(null(), num(1), null(), num(4), flag(0)), row(null(), num(1), null(), num(5), flag(0)))},
		"a row comes to another group": {turn(row(num(4), null(), flag(0), null()), row(num(4), word(""), flag(0), null())), func(g []api.Group) []api.Group {
			g[0].Row = row(word(""))
			return g
		}, []api.Change{leave(null(), num(1), null(), num(4), flag(0)), come(word(""), num(1), null(), num(4), flag(0))}},
		"by rising rows, however they come": {slices.Concat([]api.Change{come(num(1), word("c"), null(), null()), leave(num(0), word("b"), flag(1), num(3))}, turn(row(num(1), a, null(), num(9)), row(num(7), word("0"), null(), null())), []api.Change{leave(num(4), null(), flag(0), null())}), func(g []api.Group) []api.Group {
			lone := func(s string, n int) api.Group {
				return api.Group{Row: row(word(s)), N: 1, Bags: [][]api.Tally{nil, bag(tally(null(), 1)), bag(tally(num(n), 1)), bag(tally(null(), 1))}}
			}
			g[1].N, g[1].Bags[1], g[1].Bags[2][0].N, g[1].Bags[3][0].N = 4, g[1].Bags[1][:2], 1, 4
			g[2].N, g[2].Bags = 1, [][]api.Tally{nil, bag(tally(num(3), 1)), bag(tally(null(), 1)), bag(tally(flag(0), 1))}
			return []api.Group{lone("0", 7), g[1], g[2], lone("c", 1)}
		}, slices.Concat([]api.Change{leave(null(), num(1), null(), num(4), flag(0)), come(word("0"), num(1), null(), num(7), null())},
			turn(row(a, num(5), num(3), num(1), null()), row(a, num(4), num(-6), num(1), null())),
			turn(row(word("b"), num(2), num(6), num(0), flag(1)), row(word("b"), num(1), num(3), null(), flag(0))),
			[]api.Change{come(word("c"), num(1), null(), num(1), null())})},
	} {
		want := c.do(deep(sample()))
		g, told, e := Step(allFigures(), sample(), c.l)
		if e != api.OK || !sameGroups(g, want) || Check(allFigures(), g) != api.OK {
			t.Errorf("%s: %v %d and must be %v", name, g, e, want)
		}
		if !sameChanges(told, c.told) {
			t.Errorf("%s: %v is told and must be %v", name, told, c.told)
		}
	}
}

func TestStepErrors(t *testing.T) { // H3, P1: each, and which is told first
	a, none := word("a"), api.Value{Kind: 9}
	wide, narrow, typed := come(num(1), a, null(), null(), null()), come(num(1), a, null()), come(num(1), a, num(1), null())
	gone := leave(num(7), a, null(), num(9))
	for name, c := range map[string]struct {
		l    []api.Change
		want api.Errno
	}{
		"no kind":                        {[]api.Change{typed, {Kind: 0, Row: ints(1)}}, api.ErrKind},
		"no such kind":                   {[]api.Change{{Kind: 5, Row: row(num(1), a, null(), null())}}, api.ErrKind},
		"a cell that is none":            {[]api.Change{narrow, come(none)}, api.ErrKind},
		"a cell that is not right":       {[]api.Change{gone, come(num(1), a, flag(2), null())}, api.ErrForm},
		"a Before alone":                 {[]api.Change{wide, {Kind: api.Before, Row: gone.Row}}, api.ErrPair},
		"an After alone":                 {[]api.Change{{Kind: api.After, Row: gone.Row}}, api.ErrPair},
		"too many changes":               {make([]api.Change, api.MaxRows+1), api.ErrMany},
		"a cell more":                    {[]api.Change{wide}, api.ErrMany},
		"a cell less":                    {[]api.Change{narrow}, api.ErrMany},
		"no cells":                       {[]api.Change{come()}, api.ErrMany},
		"as many as come out":            {[]api.Change{come(sampleView()[1].Row...)}, api.ErrMany},
		"another type":                   {[]api.Change{typed}, api.ErrType},
		"another type in the last":       {[]api.Change{come(num(1), a, null(), a)}, api.ErrType},
		"the first of both is ErrMany":   {[]api.Change{come(num(1), a, null(), null()), narrow, typed}, api.ErrMany},
		"the first of both is ErrType":   {[]api.Change{come(num(1), a, null(), null()), typed, narrow}, api.ErrType},
		"ErrType ahead of ErrNone":       {[]api.Change{gone, typed}, api.ErrType},
		"ErrMany ahead of ErrNone":       {[]api.Change{gone, wide}, api.ErrMany},
		"no such group":                  {[]api.Change{leave(num(1), word("z"), null(), null())}, api.ErrNone},
		"no such group, by a Before":     {turn(row(num(1), word("z"), null(), null()), row(num(1), word("z"), null(), null())), api.ErrNone},
		"no such value, in the first":    {[]api.Change{leave(num(1), a, null(), num(8))}, api.ErrNone},
		"no such value, in the second":   {[]api.Change{leave(num(7), a, null(), num(9))}, api.ErrNone},
		"no such value, in the last":     {[]api.Change{leave(num(1), a, flag(1), num(9))}, api.ErrNone},
		"no Null there":                  {[]api.Change{leave(null(), a, null(), num(9))}, api.ErrNone},
		"once too often":                 {[]api.Change{leave(num(1), a, null(), num(9)), leave(num(2), a, null(), num(9))}, api.ErrNone},
		"it comes behind its going":      {[]api.Change{leave(num(1), word("z"), null(), null()), come(num(1), word("z"), null(), null())}, api.ErrNone},
		"a group that went":              {[]api.Change{leave(num(4), null(), flag(0), null()), leave(num(4), null(), flag(0), null())}, api.ErrNone},
		"and one that came may go":       {[]api.Change{come(num(1), word("z"), null(), null()), leave(num(1), word("z"), null(), null())}, api.OK},
		"what goes is not asked further": {[]api.Change{leave(num(2), a, null(), num(-2)), leave(num(1), a, null(), num(9))}, api.OK},
	} {
		g, told, e := Step(allFigures(), sample(), c.l)
		if e != c.want || e != api.OK && len(g)+len(told) > 0 {
			t.Errorf("%s: %v %v %d and must be %d", name, g, told, e, c.want)
		}
	}
}

func TestAsManyAsMayBe(t *testing.T) { // H3: of an N, and of groups
	one := row(num(2), word("a"), flag(1), num(1))
	less := fullGroup(api.MaxCount - 1)
	for name, c := range map[string]struct {
		g    []api.Group
		l    []api.Change
		want api.Errno
	}{
		"to MaxCount":             {less, []api.Change{come(one...)}, api.OK},
		"above MaxCount":          {fullGroup(api.MaxCount), []api.Change{come(one...)}, api.ErrMany},
		"above it, another value": {fullGroup(api.MaxCount), []api.Change{come(num(3), word("a"), null(), null())}, api.ErrMany},
		"above it, and back":      {fullGroup(api.MaxCount), []api.Change{come(one...), leave(one...)}, api.ErrMany},
		"below it, and back":      {fullGroup(api.MaxCount), turn(one, one), api.OK},
		"another group":           {fullGroup(api.MaxCount), []api.Change{come(num(2), word("b"), flag(1), num(1))}, api.OK},
	} {
		g, told, e := Step(allFigures(), c.g, c.l)
		if e != c.want || e != api.OK && len(g)+len(told) > 0 || e == api.OK && Check(allFigures(), g) != api.OK {
			t.Errorf("%s: %d and must be %d", name, e, c.want)
		}
	}
	p := planOf([]int{0}, api.Agg{Fn: api.CountOf})
	next := []api.Change{come(num(api.MaxRows), null(), null(), null())}
	for name, c := range map[string]struct {
		g    []api.Group
		l    []api.Change
		want api.Errno
	}{
		"the last group":       {many(api.MaxRows)[1:], next, api.OK},
		"a group too many":     {many(api.MaxRows), next, api.ErrMany},
		"too many, and back":   {many(api.MaxRows), append(slices.Clone(next), leave(next[0].Row...)), api.ErrMany},
		"one goes ahead of it": {many(api.MaxRows), append([]api.Change{leave(num(5), null(), null(), null())}, next...), api.OK},
		"one in its place":     {many(api.MaxRows), turn(row(num(5), null(), null(), null()), next[0].Row), api.OK},
		"one that is there":    {many(api.MaxRows), []api.Change{come(num(5), word("a"), null(), null())}, api.OK},
	} {
		g, told, e := Step(p, c.g, c.l)
		if e != c.want || e != api.OK && len(g)+len(told) > 0 || e == api.OK && (Check(p, g) != api.OK || len(g) != api.MaxRows) {
			t.Errorf("%s: %d groups, %d and must be %d", name, len(g), e, c.want)
		}
	}
}

func TestAllGroupsAtOnce(t *testing.T) { // H3: more changes than a list of them may have are told all the same
	p := planOf([]int{0}, api.Agg{Fn: api.CountOf})
	var l []api.Change
	for i := range api.MaxRows {
		l = append(l, come(num(i), null(), null(), null()))
	}
	g, told, e := Step(p, many(api.MaxRows), l)
	if e != api.OK || len(told) != 2*api.MaxRows || len(g) != api.MaxRows || g[0].N != 2 || g[api.MaxRows-1].N != 2 {
		t.Errorf("%d groups, %d changes, %d", len(g), len(told), e)
	}
}

// draw gives numbers that are the same each time.
type draw uint64

func (d *draw) n(n int) int {
	*d = *d*6364136223846793005 + 1442695040888963407
	return int(uint64(*d) >> 33 % uint64(n))
}

// row is a joined row of few that there are.
func (d *draw) row() []api.Value {
	cells := row(num(d.n(3)-1), word([]string{"", "a", "b"}[d.n(3)]), flag(d.n(2)), num([]int{1, -2, math.MaxInt}[d.n(3)]))
	if d.n(3) == 0 {
		cells[d.n(4)] = null()
	}
	return cells
}

// changes is some that can be done to the view, and what it is behind them.
func (d *draw) changes(v []api.Count, n int) ([]api.Change, []api.Count) {
	var l []api.Change
	for len(l) < n {
		some := []api.Change{come(d.row()...)}
		if len(v) > 0 && d.n(2) == 0 {
			gone := slices.Clone(v[d.n(len(v))].Row)
			some = [][]api.Change{{leave(gone...)}, turn(gone, d.row())}[d.n(2)]
		}
		v, _, _ = change.Fold(v, some)
		l = append(l, some...)
	}
	return l, v
}

// plans is plans that group in many ways.
func (d *draw) plans() (l []api.Plan) {
	for range 30 {
		var group []int
		for at := range 4 {
			if d.n(3) == 0 {
				group = append(group, at)
			}
		}
		if d.n(2) == 0 {
			slices.Reverse(group)
		}
		var aggs []api.Agg
		for range 1 + d.n(4) {
			a := api.Agg{Fn: 1 + d.n(4), Col: d.n(4)}
			switch a.Fn {
			case api.CountOf:
				a.Col = 0
			case api.SumOf:
				a.Col = 3 * d.n(2)
			}
			aggs = append(aggs, a)
		}
		l = append(l, planOf(group, aggs...))
	}
	return l
}

func TestGroupsOfChanges(t *testing.T) { // H3, H4: whatever is done, in however many steps
	d := draw(21)
	for _, p := range d.plans() {
		var g []api.Group
		var v, out []api.Count
		for range 40 {
			l, now := d.changes(v, d.n(5))
			next, told, e := Step(p, g, l)
			if e != api.OK || Check(p, next) != api.OK {
				t.Fatalf("%v: Step is %d", p, e)
			}
			want, _ := batch.Group(p, now)
			made, e := View(p, next)
			folded, _, f := change.Fold(out, told)
			if e != api.OK || !sameView(made, want) || f != api.OK || !sameView(folded, want) {
				t.Fatalf("%v, %v: View is %v %d, what was told makes %v %d, and must be %v", p, l, made, e, folded, f, want)
			}
			if !sameGroups(next, groupsPlainly(p, now)) {
				t.Fatalf("%v: %v and must be %v", p, next, groupsPlainly(p, now))
			}
			if !toldPlainly(len(p.Group), out, want, told) {
				t.Fatalf("%v: of %v and %v is told %v", p, out, want, told)
			}
			g, v, out = next, now, folded
		}
	}
}

// groupsPlainly is the groups of a view, row by row.
func groupsPlainly(p api.Plan, v []api.Count) (g []api.Group) {
	for _, c := range v {
		var own []api.Value
		for _, at := range p.Group {
			own = append(own, c.Row[at])
		}
		at := slices.IndexFunc(g, func(x api.Group) bool { return slices.Equal(x.Row, own) })
		if at < 0 {
			at = len(g)
			g = append(g, api.Group{Row: own, Bags: make([][]api.Tally, len(p.Aggs))})
		}
		g[at].N += c.N
		for i, a := range p.Aggs {
			if a.Fn != api.CountOf {
				g[at].Bags[i] = tallied(g[at].Bags[i], c.Row[a.Col], c.N)
			}
		}
	}
	slices.SortFunc(g, func(a, b api.Group) int { return value.Rows(a.Row, b.Row) })
	return g
}

func tallied(l []api.Tally, v api.Value, n int) []api.Tally {
	at := slices.IndexFunc(l, func(t api.Tally) bool { return t.Value == v })
	if at < 0 {
		at = len(l)
		l = append(l, tally(v, 0))
	}
	l[at].N += n
	slices.SortFunc(l, func(a, b api.Tally) int { return value.Compare(a.Value, b.Value) })
	return l
}

// toldPlainly tells whether of each group just what it must is told, in order.
func toldPlainly(size int, was, now []api.Count, told []api.Change) bool {
	of := func(v []api.Count, begin []api.Value) []api.Value {
		for _, c := range v {
			if slices.Equal(c.Row[:size], begin) {
				return c.Row
			}
		}
		return nil
	}
	var begins [][]api.Value
	for _, c := range slices.Concat(was, now) {
		begins = append(begins, c.Row[:size])
	}
	slices.SortFunc(begins, value.Rows)
	begins = slices.CompactFunc(begins, slices.Equal)
	var want []api.Change
	for _, begin := range begins {
		a, b := of(was, begin), of(now, begin)
		switch {
		case a == nil:
			want = append(want, come(b...))
		case b == nil:
			want = append(want, leave(a...))
		case !slices.Equal(a, b):
			want = append(want, turn(a, b)...)
		}
	}
	return sameChanges(told, want)
}

// spare is a list that has room behind it, and what lies there.
func spare[T any](l []T, behind T) (short, whole []T) {
	whole = append(slices.Clone(l), behind, behind)
	return whole[:len(l)], whole
}

// memoryChanges lets groups of sample come, go and be others, and bags too.
func memoryChanges(own []api.Value) []api.Change {
	return slices.Concat([]api.Change{come(own...), come(num(0), word("aa"), flag(0), num(7)), leave(num(4), null(), flag(0), null())}, turn(row(num(0), word("b"), flag(1), num(3)), row(num(5), word("b"), null(), num(4))))
}

func TestWhatIsHandedInIsOnlyRead(t *testing.T) { // P2: the room behind lists too
	own, ownRoom := spare(row(num(0), word("a"), flag(1), num(5)), num(77))
	l, lRoom := spare(memoryChanges(own), leave(num(1)))
	g, gRoom := spare(sample(), fullGroup(3)[0])
	part, partRoom := spare(g[1].Bags[2], tally(num(66), 66))
	bags, bagsRoom := spare(g[2].Bags, bag(tally(num(55), 5)))
	cell, cellRoom := spare(g[1].Row, num(44))
	g[1].Bags[2], g[2].Bags, g[1].Row = part, bags, cell
	p := allFigures()
	p.Group = slices.Clone(append(p.Group, 9, 9))[:1]
	was := []any{slices.Clone(ownRoom), deep(gRoom), slices.Clone(partRoom), deep([]api.Group{{Bags: bagsRoom}})[0].Bags, slices.Clone(cellRoom), slices.Clone(p.Group[:cap(p.Group)])}
	wasChanges := slices.Clone(lRoom)
	for i := range wasChanges {
		wasChanges[i].Row = slices.Clone(wasChanges[i].Row)
	}
	Check(p, g)
	View(p, g)
	if _, _, e := Step(p, g, l); e != api.OK {
		t.Fatalf("Step: %d", e)
	}
	if _, _, e := Step(p, g, append(slices.Clone(l), leave(null(), null(), null(), null()))); e != api.ErrNone {
		t.Fatalf("Step: %d", e)
	}
	is := []any{ownRoom, gRoom, partRoom, bagsRoom, cellRoom, p.Group[:cap(p.Group)]}
	if !reflect.DeepEqual(is, was) || !reflect.DeepEqual(lRoom, wasChanges) {
		t.Errorf("what was handed in is\n%v\nand was\n%v", is, was)
	}
}

func fill[T any](l []T, with T) {
	l = l[:cap(l)]
	for i := range l {
		l[i] = with
	}
}

// pieces is all lists of an answer, each a call that writes over it and the
// room behind it.
func pieces(g []api.Group, told []api.Change) (spoil []func()) {
	for _, x := range g {
		spoil = append(spoil, func() { fill(x.Row, num(-99)) })
		for _, b := range x.Bags {
			spoil = append(spoil, func() { fill(b, tally(num(-99), -99)) })
		}
		spoil = append(spoil, func() { fill(x.Bags, bag(tally(num(-98), -98))) })
	}
	for _, c := range told {
		spoil = append(spoil, func() { fill(c.Row, num(-99)) })
	}
	return append(spoil, func() { fill(g, api.Group{N: -99}) }, func() { fill(told, api.Change{Kind: -9}) })
}

// differing is how many lists of two answers that are made alike differ.
func differing(a []api.Group, at []api.Change, b []api.Group, bt []api.Change) (n int) {
	for i := range a {
		if a[i].N == -99 {
			n++
			break
		}
		if !slices.Equal(a[i].Row, b[i].Row) {
			n++
		}
		if a[i].Bags[0] != nil && len(a[i].Bags[0]) == 1 && a[i].Bags[0][0].N == -98 {
			n++
			continue
		}
		for j := range a[i].Bags {
			if !sameBag(a[i].Bags[j], b[i].Bags[j]) {
				n++
			}
		}
	}
	for i := range at {
		if at[i].Kind == -9 {
			return n + 1
		}
		if !slices.Equal(at[i].Row, bt[i].Row) {
			n++
		}
	}
	return n
}

func TestAnswersAreNewMemory(t *testing.T) { // P2: no list of an answer is another one of it, or the caller's
	own := row(num(0), word("z"), flag(1), num(5))
	g := sample()
	g[1].Bags[3] = bag(tally(null(), 5))
	was, wasOwn := deep(g), slices.Clone(own)
	for name, l := range map[string][]api.Change{"many": memoryChanges(own), "none": nil, "twice": {come(own...), come(own...)}} {
		ask := func() ([]api.Group, []api.Change) {
			next, told, e := Step(allFigures(), g, l)
			if e != api.OK {
				t.Fatalf("%s: %d", name, e)
			}
			return next, told
		}
		want, wantTold := ask()
		for i := range pieces(want, wantTold) {
			next, told := ask()
			pieces(next, told)[i]()
			if !sameGroups(g, was) || !slices.Equal(own, wasOwn) {
				t.Fatalf("%s: piece %d of the answer is the caller's", name, i)
			}
			if n := differing(next, told, want, wantTold); n > 1 {
				t.Fatalf("%s: with piece %d %d others change", name, i, n)
			}
		}
	}
	v, _ := View(allFigures(), g)
	for i := range v {
		fill(v[i].Row, num(-99))
		if i+1 < len(v) && !sameView(v[i+1:], sampleView()[i+1:]) || !sameGroups(g, was) {
			t.Fatal("a row of the view shares memory")
		}
	}
}

func TestAnswersHangOnWhatIsHandedIn(t *testing.T) { // P3
	l := memoryChanges(row(num(0), word("z"), flag(1), num(5)))
	g, told, _ := Step(allFigures(), sample(), l)
	for range 5 {
		Step(allFigures(), sample(), l[:1])
		g2, told2, e := Step(allFigures(), sample(), l)
		if e != api.OK || !sameGroups(g, g2) || !sameChanges(told, told2) {
			t.Fatal("the same was asked, and the answers are not the same")
		}
	}
}
