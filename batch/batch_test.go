package batch

import (
	"math"
	"reflect"
	"slices"
	"strings"
	"testing"

	"meetwater/api"
	"meetwater/change"
	"meetwater/plan"
	"meetwater/value"
)

func null() api.Value         { return api.Value{} }
func flag(n int) api.Value    { return api.Value{Kind: api.Bool, N: n} }
func num(n int) api.Value     { return api.Value{Kind: api.Int, N: n} }
func word(s string) api.Value { return api.Value{Kind: api.Text, S: s} }

func row(cells ...api.Value) []api.Value { return cells }

// ints is a row of Ints.
func ints(ns ...int) []api.Value {
	out := []api.Value{}
	for _, n := range ns {
		out = append(out, num(n))
	}
	return out
}

func at(time int, cells ...api.Value) api.Stamped { return api.Stamped{Time: time, Row: cells} }
func count(n int, r []api.Value) api.Count        { return api.Count{Row: r, N: n} }

// once is a view of rising rows, each of them once.
func once(rows ...[]api.Value) (v []api.Count) {
	for _, r := range rows {
		v = append(v, count(1, r))
	}
	return v
}

func sameCount(a, b api.Count) bool  { return a.N == b.N && slices.Equal(a.Row, b.Row) }
func sameView(a, b []api.Count) bool { return slices.EqualFunc(a, b, sameCount) }

// planOf is a plan of two Ints on each side, met by the first.
func planOf(kind, mode int) api.Plan {
	two := []int{api.Int, api.Int}
	p := api.Plan{Kind: kind, Mode: mode, Limit: 1, Left: two, Right: two, LKeys: []int{0}, RKeys: []int{0}}
	switch kind {
	case api.Interval:
		p.Low, p.High = -5, 5
	case api.Window:
		p.Size = 10
	}
	return p
}

func grouped(p api.Plan, group []int, aggs ...api.Agg) api.Plan {
	p.Grouped, p.Group, p.Aggs = true, group, aggs
	return p
}

// allPlans is a plan of each kind and mode.
func allPlans() (l []api.Plan) {
	for _, kind := range []int{api.Interval, api.Window, api.Temporal} {
		for mode := api.Inner; mode <= api.FullOuter; mode++ {
			if kind != api.Temporal || mode <= api.LeftOuter {
				l = append(l, planOf(kind, mode))
			}
		}
	}
	return l
}

// draw gives numbers that are the same each time.
type draw uint64

func (d *draw) n(n int) int {
	*d = *d*6364136223846793005 + 1442695040888963407
	return int(uint64(*d) >> 33 % uint64(n))
}

// cell is one of few, so that the same ones come again.
func (d *draw) cell(kind int) api.Value {
	switch {
	case d.n(6) == 0:
		return null()
	case kind == api.Bool:
		return flag(d.n(2))
	case kind == api.Int:
		return num(d.n(3) - 1)
	}
	return word([]string{"", "a", "a\x00"}[d.n(3)])
}

func (d *draw) rows(n int, columns []int) (l []api.Stamped) {
	for range n {
		s := api.Stamped{Time: d.n(50) - 25}
		for _, kind := range columns {
			s.Row = append(s.Row, d.cell(kind))
		}
		l = append(l, s)
	}
	return l
}

// shape lets a plan have other columns, a span or a size of its own.
func (d *draw) shape(p api.Plan) api.Plan {
	if d.n(2) == 0 {
		p.Left, p.Right = []int{api.Text, api.Int, api.Bool}, []int{api.Bool, api.Text}
		p.LKeys, p.RKeys = []int{2, 0}, []int{0, 1}
	}
	switch p.Kind {
	case api.Interval:
		p.Low = d.n(20) - 12
		p.High = p.Low + d.n(15)
	case api.Window:
		p.Size = 1 + d.n(20)
	}
	return p
}

// windowOf is which window of a size a time is in, counted one by one.
func windowOf(time, size int) int {
	n := 0
	for time >= size {
		time, n = time-size, n+1
	}
	for time < 0 {
		time, n = time+size, n-1
	}
	return n
}

// meetPlainly tells whether two rows meet, by the words of E1 (of Temporal:
// whether the right one may be the left one's version).
func meetPlainly(p api.Plan, l, r api.Stamped) bool {
	for i := range p.LKeys {
		a, b := l.Row[p.LKeys[i]], r.Row[p.RKeys[i]]
		if a.Kind == api.Null || a != b {
			return false
		}
	}
	switch p.Kind {
	case api.Interval:
		return r.Time-l.Time >= p.Low && r.Time-l.Time <= p.High
	case api.Window:
		return windowOf(l.Time, p.Size) == windowOf(r.Time, p.Size)
	}
	return r.Time <= l.Time
}

// joinPlainly is Join of right rows, each left one held against each right one.
func joinPlainly(p api.Plan, left, right []api.Stamped) []api.Count {
	var out [][]api.Value
	met := make([]bool, len(right))
	for _, l := range left {
		var with []int
		for i, r := range right {
			if !meetPlainly(p, l, r) {
				continue
			}
			if p.Kind == api.Temporal && len(with) > 0 {
				if right[with[0]].Time <= r.Time {
					with[0] = i
				}
				continue
			}
			with = append(with, i)
		}
		for _, i := range with {
			met[i] = true
			out = append(out, append(slices.Clone(l.Row), right[i].Row...))
		}
		if len(with) == 0 && (p.Mode == api.LeftOuter || p.Mode == api.FullOuter) {
			out = append(out, append(slices.Clone(l.Row), make([]api.Value, len(p.Right))...))
		}
	}
	for i, r := range right {
		if !met[i] && (p.Mode == api.RightOuter || p.Mode == api.FullOuter) {
			out = append(out, append(make([]api.Value, len(p.Left)), r.Row...))
		}
	}
	return viewOf(out)
}

// viewOf is the view of rows in whatever order.
func viewOf(rows [][]api.Value) (v []api.Count) {
	slices.SortFunc(rows, value.Rows)
	for _, r := range rows {
		if n := len(v); n > 0 && slices.Equal(v[n-1].Row, r) {
			v[n-1].N++
		} else {
			v = append(v, count(1, r))
		}
	}
	return v
}

func TestJoin(t *testing.T) { // E1, E2
	d := draw(7)
	for _, base := range allPlans() {
		some := 0
		for range 150 {
			p := d.shape(base)
			left, right := d.rows(d.n(16), p.Left), d.rows(d.n(16), p.Right)
			want := joinPlainly(p, left, right)
			some += len(want)
			got, e := Join(p, left, right)
			if e != api.OK || !sameView(got, want) || change.Check(got) != api.OK {
				t.Fatalf("Join(%v, %v, %v) is %v %d and must be %v", p, left, right, got, e, want)
			}
		}
		if some < 100 {
			t.Errorf("kind %d, mode %d: only %d rows came", base.Kind, base.Mode, some)
		}
	}
}

func TestExample(t *testing.T) { // E1: example 5 of the document
	left, right := []api.Stamped{at(1, ints(7, 1)...)}, []api.Stamped{at(2, ints(7, 2)...), at(9, ints(7, 3)...)}
	want := once(row(null(), null(), num(7), num(3)), ints(7, 1, 7, 2))
	if got, e := Join(planOf(api.Interval, api.FullOuter), left, right); e != api.OK || !sameView(got, want) {
		t.Errorf("%v %d", got, e)
	}
}

func TestModes(t *testing.T) { // E1
	left := []api.Stamped{at(0, ints(1, 10)...), at(0, ints(2, 20)...), at(0, null(), num(30))}
	right := []api.Stamped{at(0, ints(1, 11)...), at(0, ints(3, 31)...), at(0, null(), num(41))}
	both := ints(1, 10, 1, 11)
	lefts := [][]api.Value{row(null(), num(30), null(), null()), row(num(2), num(20), null(), null())}
	rights := [][]api.Value{row(null(), null(), null(), num(41)), row(null(), null(), num(3), num(31))}
	for mode, want := range map[int][][]api.Value{
		api.Inner:      {both},
		api.LeftOuter:  {lefts[0], both, lefts[1]},
		api.RightOuter: {rights[0], rights[1], both},
		api.FullOuter:  {rights[0], rights[1], lefts[0], both, lefts[1]},
	} {
		for _, kind := range []int{api.Interval, api.Window} {
			if got, e := Join(planOf(kind, mode), left, right); e != api.OK || !sameView(got, once(want...)) {
				t.Errorf("kind %d, mode %d: %v %d", kind, mode, got, e)
			}
		}
	}
}

func TestTimesThatMeet(t *testing.T) { // E1: the edges of spans and windows
	const m = api.MaxTime
	span := func(low, high int) api.Plan {
		p := planOf(api.Interval, api.Inner)
		p.Low, p.High = low, high
		return p
	}
	windows := func(size int) api.Plan {
		p := planOf(api.Window, api.Inner)
		p.Size = size
		return p
	}
	for _, c := range []struct {
		p    api.Plan
		l, r int
		want bool
	}{
		{span(-3, 4), 10, 7, true}, {span(-3, 4), 10, 6, false}, {span(-3, 4), 10, 14, true}, {span(-3, 4), 10, 15, false},
		{span(2, 2), 5, 7, true}, {span(2, 2), 5, 6, false}, {span(2, 2), 7, 5, false}, {span(-2, -1), 0, -1, true}, {span(-2, -1), 0, 0, false},
		{span(-m, m), 0, m, true}, {span(-m, m), m, -m, false}, {span(m, m), -m, 0, true}, {span(m, m), -m, m, false},
		{windows(10), 0, 9, true}, {windows(10), 9, 10, false}, {windows(10), -1, 0, false}, {windows(10), -10, -1, true}, {windows(10), -11, -10, false},
		{windows(1), 4, 4, true}, {windows(1), 4, 5, false}, {windows(m), 0, m - 1, true}, {windows(m), m, m - 1, false}, {windows(m), -m, -1, true},
		{planOf(api.Temporal, api.Inner), 5, 5, true}, {planOf(api.Temporal, api.Inner), 5, 6, false}, {planOf(api.Temporal, api.Inner), m, -m, true},
	} {
		got, e := Join(c.p, []api.Stamped{at(c.l, ints(1, 1)...)}, []api.Stamped{at(c.r, ints(1, 2)...)})
		if e != api.OK || (len(got) == 1) != c.want {
			t.Errorf("kind %d, %d to %d, size %d: %d and %d: %v %d", c.p.Kind, c.p.Low, c.p.High, c.p.Size, c.l, c.r, got, e)
		}
	}
}

func TestKeysThatMeet(t *testing.T) { // E1: by all key columns, in the order of the plan
	p := planOf(api.Interval, api.Inner)
	p.LKeys, p.RKeys = []int{0, 1}, []int{1, 0}
	left := []api.Stamped{at(0, ints(1, 2)...), at(0, num(1), null()), at(0, null(), null())}
	right := []api.Stamped{at(0, ints(1, 2)...), at(0, ints(2, 1)...), at(0, null(), num(1)), at(0, null(), null()), at(0, ints(2, 2)...)}
	if got, e := Join(p, left, right); e != api.OK || !sameView(got, once(ints(1, 2, 2, 1))) {
		t.Errorf("%v %d", got, e)
	}
	texts := planOf(api.Window, api.Inner)
	texts.Left, texts.Right, texts.LKeys, texts.RKeys = []int{api.Text, api.Text}, []int{api.Text, api.Text}, []int{0, 1}, []int{0, 1}
	got, e := Join(texts, []api.Stamped{at(0, word("a"), word("bc"))}, []api.Stamped{at(0, word("ab"), word("c")), at(0, word("a"), word("bc"))})
	if e != api.OK || !sameView(got, once(row(word("a"), word("bc"), word("a"), word("bc")))) {
		t.Errorf("%v %d", got, e)
	}
}

func TestRowsThatStandThereOften(t *testing.T) { // E1
	left := []api.Stamped{at(0, ints(1, 1)...), at(0, ints(1, 1)...), at(2, ints(1, 1)...), at(0, ints(2, 2)...), at(9, ints(2, 2)...)}
	right := []api.Stamped{at(0, ints(1, 5)...), at(1, ints(1, 5)...), at(0, ints(1, 4)...), at(5, ints(3, 3)...), at(5, ints(3, 3)...)}
	want := []api.Count{
		count(2, row(null(), null(), num(3), num(3))), count(3, ints(1, 1, 1, 4)), count(6, ints(1, 1, 1, 5)), count(2, row(num(2), num(2), null(), null())),
	}
	if got, e := Join(planOf(api.Interval, api.FullOuter), left, right); e != api.OK || !sameView(got, want) {
		t.Errorf("%v %d", got, e)
	}
}

func TestVersions(t *testing.T) { // E2
	versions := []api.Stamped{at(5, ints(1, 50)...), at(2, ints(1, 20)...), at(5, ints(1, 51)...), at(2, ints(1, 21)...), at(9, null(), num(90)), at(4, ints(2, 40)...)}
	for _, c := range []struct {
		l       api.Stamped
		version []api.Value // nil: it has none
	}{
		{at(1, ints(1, 0)...), nil}, {at(2, ints(1, 0)...), ints(1, 21)}, {at(4, ints(1, 0)...), ints(1, 21)},
		{at(5, ints(1, 0)...), ints(1, 51)}, {at(api.MaxTime, ints(1, 0)...), ints(1, 51)}, {at(-api.MaxTime, ints(1, 0)...), nil},
		{at(9, null(), num(0)), nil}, {at(9, ints(3, 0)...), nil}, {at(9, ints(2, 0)...), ints(2, 40)}, {at(3, ints(2, 0)...), nil},
	} {
		var inner []api.Count
		outer := once(append(slices.Clone(c.l.Row), null(), null()))
		if c.version != nil {
			inner = once(append(slices.Clone(c.l.Row), c.version...))
			outer = inner
		}
		l := []api.Stamped{c.l}
		if got, e := Join(planOf(api.Temporal, api.Inner), l, versions); e != api.OK || !sameView(got, inner) {
			t.Errorf("Inner, %v: %v %d", c.l, got, e)
		}
		if got, e := Join(planOf(api.Temporal, api.LeftOuter), l, versions); e != api.OK || !sameView(got, outer) {
			t.Errorf("LeftOuter, %v: %v %d", c.l, got, e)
		}
	}
}

func TestVersionsAreTakenByManyRows(t *testing.T) { // E2: those of several left rows are told for each
	left := []api.Stamped{at(3, ints(1, 0)...), at(3, ints(1, 0)...), at(4, ints(1, 7)...)}
	want := []api.Count{count(2, ints(1, 0, 1, 2)), count(1, ints(1, 7, 1, 2))}
	if got, e := Join(planOf(api.Temporal, api.Inner), left, []api.Stamped{at(0, ints(1, 1)...), at(1, ints(1, 2)...)}); e != api.OK || !sameView(got, want) {
		t.Errorf("%v %d", got, e)
	}
}

func TestJoinOfNothing(t *testing.T) { // E1, E2, P2: lists without elements, nil or not
	some := []api.Stamped{at(0, ints(1, 1)...)}
	for _, p := range allPlans() {
		for _, none := range [][]api.Stamped{nil, {}} {
			v, e := Join(p, none, none)
			l, f := Join(p, some, none)
			r, g := Join(p, none, some)
			if e != api.OK || f != api.OK || g != api.OK || len(v) != 0 || !sameView(l, joinPlainly(p, some, nil)) || !sameView(r, joinPlainly(p, nil, some)) {
				t.Errorf("kind %d, mode %d: %v %d, %v %d, %v %d", p.Kind, p.Mode, v, e, l, f, r, g)
			}
		}
	}
}

func TestAsManyAsMayBe(t *testing.T) { // E1, E3
	same := slices.Repeat([]api.Stamped{at(0, ints(1, 1)...)}, api.MaxBatch/2)
	var other []api.Stamped
	for i := range api.MaxBatch / 2 {
		other = append(other, at(0, num(1), num(i)))
	}
	for _, kind := range []int{api.Interval, api.Window} {
		got, e := Join(planOf(kind, api.FullOuter), other, same)
		if e != api.OK || len(got) != len(other) || got[0].N != len(same) || got[59].N != len(same) {
			t.Errorf("kind %d: %d rows, %d", kind, len(got), e)
		}
		if got, e := Join(planOf(kind, api.FullOuter), other, other); e != api.OK || len(got) != len(other)*len(other) {
			t.Errorf("kind %d: %d rows, %d", kind, len(got), e)
		}
	}
	for _, p := range allPlans() {
		full, one := slices.Concat(same, same), same[:1]
		_, e := Join(p, full, nil)
		_, f := Join(p, nil, full)
		_, g := Join(p, full, one)
		_, h := Join(p, one, full)
		_, i := Join(p, same, slices.Concat(same, one))
		if e != api.OK || f != api.OK || g != api.ErrMany || h != api.ErrMany || i != api.ErrMany {
			t.Errorf("kind %d, mode %d: %d %d %d %d %d", p.Kind, p.Mode, e, f, g, h, i)
		}
	}
}

func TestJoinErrors(t *testing.T) { // E3, P1
	p := planOf(api.Interval, api.FullOuter)
	wrong := p
	wrong.LKeys = []int{2}
	good, late := at(0, ints(1, 1)...), at(api.MaxTime+1, ints(1, 1)...)
	short, typed, form := at(0, num(1)), at(0, num(1), word("")), at(0, num(1), flag(2))
	long := at(0, num(1), word(strings.Repeat("x", api.MaxText+1)))
	many := slices.Repeat([]api.Stamped{at(math.MaxInt)}, api.MaxBatch)
	for name, c := range map[string]struct {
		p           api.Plan
		left, right []api.Stamped
		want        api.Errno
	}{
		"the plan's":                  {wrong, many, many, api.ErrForm},
		"too many":                    {p, many, []api.Stamped{short}, api.ErrMany},
		"a left time":                 {p, []api.Stamped{good, late}, nil, api.ErrRange},
		"a right time":                {p, []api.Stamped{good}, []api.Stamped{late}, api.ErrRange},
		"a time below":                {p, nil, []api.Stamped{at(api.NoMark, ints(1, 1)...)}, api.ErrRange},
		"a right time, a left row":    {p, []api.Stamped{typed}, []api.Stamped{late}, api.ErrRange},
		"a left row":                  {p, []api.Stamped{good, typed}, nil, api.ErrType},
		"a right row":                 {p, []api.Stamped{good}, []api.Stamped{good, typed}, api.ErrType},
		"the first left row":          {p, []api.Stamped{good, form, typed, short}, nil, api.ErrForm},
		"the first, turned round":     {p, []api.Stamped{typed, form, short}, nil, api.ErrType},
		"the first right row":         {p, []api.Stamped{good}, []api.Stamped{short, form}, api.ErrMany},
		"left ahead of right":         {p, []api.Stamped{good, typed}, []api.Stamped{short}, api.ErrType},
		"a row's cells":               {p, nil, []api.Stamped{long}, api.ErrMany},
		"a row without cells":         {p, []api.Stamped{{}}, nil, api.ErrMany},
		"a kind":                      {p, []api.Stamped{at(0, num(1), api.Value{Kind: 9})}, nil, api.ErrKind},
		"the bounds of times are not": {p, []api.Stamped{at(api.MaxTime, ints(1, 1)...)}, []api.Stamped{at(-api.MaxTime, ints(1, 1)...)}, api.OK},
	} {
		for _, call := range []func(api.Plan, []api.Stamped, []api.Stamped) ([]api.Count, api.Errno){Join, All} {
			if got, e := call(c.p, c.left, c.right); e != c.want || e != api.OK && len(got) != 0 {
				t.Errorf("%s: %v %d and must be %d", name, got, e, c.want)
			}
		}
	}
}

func TestGroup(t *testing.T) { // E4
	base := planOf(api.Interval, api.FullOuter)
	base.Left, base.Right = []int{api.Int, api.Text}, []int{api.Int, api.Bool}
	fns := func(col int, fns ...int) (l []api.Agg) {
		for _, fn := range fns {
			l = append(l, api.Agg{Fn: fn, Col: col})
		}
		return l
	}
	v := []api.Count{
		count(2, row(null(), null(), num(3), flag(1))),
		count(1, row(num(1), word("a"), null(), null())),
		count(3, row(num(1), word("a"), num(-2), flag(0))),
		count(1, row(num(1), word("b"), num(5), flag(1))),
		count(4, row(num(2), word("a"), null(), null())),
	}
	for name, c := range map[string]struct {
		group []int
		aggs  []api.Agg
		want  []api.Count
	}{
		"counts":            {[]int{0}, fns(0, api.CountOf), once(row(null(), num(2)), ints(1, 5), ints(2, 4))},
		"sums":              {[]int{0}, fns(2, api.SumOf), once(row(null(), num(6)), ints(1, -1), row(num(2), null()))},
		"least, greatest":   {[]int{0}, fns(2, api.MinOf, api.MaxOf), once(row(null(), num(3), num(3)), ints(1, -2, 5), row(num(2), null(), null()))},
		"of Bools":          {[]int{0}, fns(3, api.MaxOf, api.MinOf), once(row(null(), flag(1), flag(1)), row(num(1), flag(1), flag(0)), row(num(2), null(), null()))},
		"of Texts":          {[]int{0}, fns(1, api.MaxOf, api.MinOf), once(row(null(), null(), null()), row(num(1), word("b"), word("a")), row(num(2), word("a"), word("a")))},
		"by Texts":          {[]int{1}, fns(0, api.SumOf), once(row(null(), null()), row(word("a"), num(12)), row(word("b"), num(1)))},
		"by none":           {nil, []api.Agg{{Fn: api.CountOf}, {Fn: api.SumOf, Col: 0}, {Fn: api.SumOf, Col: 2}}, once(ints(11, 13, 5))},
		"by two, turned":    {[]int{3, 0}, fns(0, api.CountOf), once(row(null(), num(1), num(1)), row(null(), num(2), num(4)), row(flag(0), num(1), num(3)), row(flag(1), null(), num(2)), row(flag(1), num(1), num(1)))},
		"by its own column": {[]int{2}, fns(2, api.SumOf, api.MinOf), once(row(null(), null(), null()), ints(-2, -6, -2), ints(3, 6, 3), ints(5, 5, 5))},
		"by all":            {[]int{0, 1, 2, 3}, fns(0, api.CountOf), once(append(v[0].Row, num(2)), append(v[1].Row, num(1)), append(v[2].Row, num(3)), append(v[3].Row, num(1)), append(v[4].Row, num(4)))},
	} {
		got, e := Group(grouped(base, c.group, c.aggs...), v)
		if e != api.OK || !sameView(got, c.want) || change.Check(got) != api.OK {
			t.Errorf("%s: %v %d and must be %v", name, got, e, c.want)
		}
	}
}

func TestSumsGoRound(t *testing.T) { // E4
	p := grouped(planOf(api.Interval, api.Inner), []int{0}, api.Agg{Fn: api.SumOf, Col: 1}, api.Agg{Fn: api.CountOf})
	for _, c := range []struct {
		v           []api.Count
		sum, amount int
	}{
		{[]api.Count{count(1, ints(1, 1, 0, 0)), count(1, ints(1, math.MaxInt, 0, 0))}, math.MinInt, 2},
		{[]api.Count{count(1, ints(1, math.MinInt, 0, 0)), count(1, ints(1, -1, 0, 0))}, math.MaxInt, 2},
		{[]api.Count{count(2, ints(1, math.MinInt, 0, 0))}, 0, 2},
		{[]api.Count{count(3, ints(1, math.MaxInt, 0, 0))}, math.MaxInt - 2, 3},
		{[]api.Count{count(api.MaxCount, ints(1, 1<<40+1, 0, 0)), count(api.MaxCount, ints(1, 1<<41, 0, 0))}, api.MaxCount, 2 * api.MaxCount},
		{[]api.Count{count(1, ints(1, 0, 0, 0))}, 0, 1},
	} {
		if got, e := Group(p, c.v); e != api.OK || !sameView(got, once(ints(1, c.sum, c.amount))) {
			t.Errorf("%v: %v %d", c.v, got, e)
		}
	}
}

// joinedInts is a view of n rows of four Ints, each of them once.
func joinedInts(n int) (v []api.Count) {
	for i := range n {
		v = append(v, count(1, ints(i, 0, 0, 0)))
	}
	return v
}

func TestGroupBounds(t *testing.T) { // E4: nothing, and as much as may be
	p := grouped(planOf(api.Window, api.Inner), nil, api.Agg{Fn: api.CountOf})
	for _, none := range [][]api.Count{nil, {}} {
		if got, e := Group(p, none); e != api.OK || len(got) != 0 {
			t.Errorf("of no rows: %v %d", got, e)
		}
	}
	full := joinedInts(api.MaxRows)
	for i := range full {
		full[i].N = api.MaxCount
	}
	if got, e := Group(p, full); e != api.OK || !sameView(got, once(ints(api.MaxRows*api.MaxCount))) {
		t.Errorf("of a full view: %v %d", got, e)
	}
	p.Group = []int{0}
	if got, e := Group(p, full); e != api.OK || len(got) != api.MaxRows || change.Check(got) != api.OK {
		t.Errorf("of a full view: %d rows, %d", len(got), e)
	}
}

func TestGroupErrors(t *testing.T) { // E4, P1
	plain := planOf(api.Interval, api.Inner)
	p := grouped(plain, []int{0}, api.Agg{Fn: api.CountOf})
	wrong := grouped(plain, []int{4}, api.Agg{Fn: api.CountOf})
	good, typed := ints(1, 1, 1, 1), row(num(2), word(""), num(1), num(1))
	for name, c := range map[string]struct {
		p    api.Plan
		v    []api.Count
		want api.Errno
	}{
		"the plan's":            {wrong, joinedInts(api.MaxRows + 1), api.ErrForm},
		"a plan's kind":         {api.Plan{}, nil, api.ErrKind},
		"not grouped":           {plain, joinedInts(api.MaxRows + 1), api.ErrForm},
		"not grouped, no rows":  {plain, nil, api.ErrForm},
		"too many rows":         {p, joinedInts(api.MaxRows + 1), api.ErrMany},
		"not rising":            {p, once(good, good), api.ErrForm},
		"not rising, and short": {p, once(good, ints(1)), api.ErrForm},
		"N is 0":                {p, []api.Count{count(0, good)}, api.ErrForm},
		"a wrong cell":          {p, once(row(flag(2), num(1), num(1), num(1))), api.ErrForm},
		"a cell less":           {p, once(ints(1, 1, 1)), api.ErrMany},
		"a cell more":           {p, once(ints(1, 1, 1, 1, 1)), api.ErrMany},
		"no cells":              {p, once(nil, good), api.ErrMany},
		"a type":                {p, once(good, typed), api.ErrType},
		"a type ahead of cells": {p, once(good, typed, ints(3)), api.ErrMany},
		"of the last column":    {p, once(row(num(1), num(1), num(1), flag(1))), api.ErrType},
		"Nulls are of any type": {p, once(row(null(), null(), null(), null())), api.OK},
	} {
		if got, e := Group(c.p, c.v); e != c.want || e != api.OK && len(got) != 0 {
			t.Errorf("%s: %v %d and must be %d", name, got, e, c.want)
		}
	}
}

// groupPlainly is Group of a right view: rows one by one, each held against those ahead.
func groupPlainly(p api.Plan, v []api.Count) []api.Count {
	var heads, rows [][]api.Value
	var lists [][][]api.Value
	for _, c := range v {
		var head []api.Value
		for _, col := range p.Group {
			head = append(head, c.Row[col])
		}
		at := slices.IndexFunc(heads, func(h []api.Value) bool { return slices.Equal(h, head) })
		if at < 0 {
			at = len(heads)
			heads, lists = append(heads, head), append(lists, nil)
		}
		for range c.N {
			lists[at] = append(lists[at], c.Row)
		}
	}
	for i, head := range heads {
		out := slices.Clone(head)
		for _, a := range p.Aggs {
			var seen []api.Value
			sum := 0
			for _, r := range lists[i] {
				if v := r[a.Col]; v.Kind != api.Null {
					seen = append(seen, v)
					sum += v.N
				}
			}
			slices.SortFunc(seen, value.Compare)
			switch {
			case a.Fn == api.CountOf:
				out = append(out, num(len(lists[i])))
			case len(seen) == 0:
				out = append(out, null())
			case a.Fn == api.SumOf:
				out = append(out, num(sum))
			case a.Fn == api.MinOf:
				out = append(out, seen[0])
			default:
				out = append(out, seen[len(seen)-1])
			}
		}
		rows = append(rows, out)
	}
	return viewOf(rows)
}

func TestAll(t *testing.T) { // E4
	d := draw(31)
	for _, p := range allPlans() {
		for range 60 {
			left, right := d.rows(d.n(12), p.Left), d.rows(d.n(12), p.Right)
			joined, _ := Join(p, left, right)
			if got, e := All(p, left, right); e != api.OK || !sameView(got, joined) {
				t.Fatalf("All(%v, %v, %v) is %v %d and must be %v", p, left, right, got, e, joined)
			}
			g := grouped(p, []int{0, 3}[:d.n(3)], api.Agg{Fn: api.CountOf}, api.Agg{Fn: api.SumOf, Col: d.n(4)}, api.Agg{Fn: api.MinOf, Col: d.n(4)}, api.Agg{Fn: api.MaxOf, Col: d.n(4)})
			want := groupPlainly(g, joined)
			if got, e := All(g, left, right); e != api.OK || !sameView(got, want) {
				t.Fatalf("All(%v, %v, %v) is %v %d and must be %v", g, left, right, got, e, want)
			}
			if got, e := Join(g, left, right); e != api.OK || !sameView(got, joined) {
				t.Fatalf("Join of a grouped plan is %v %d and must be %v", got, e, joined)
			}
			if got, e := Group(g, joined); e != api.OK || !sameView(got, want) {
				t.Fatalf("Group(%v, %v) is %v %d and must be %v", g, joined, got, e, want)
			}
		}
	}
}

// mixed is the rows in another order; of one key and time the first stay first.
func (d *draw) mixed(l []api.Stamped) []api.Stamped {
	out := slices.Clone(l)
	for range 30 * len(l) {
		i := d.n(len(l))
		if j := i + 1; j < len(l) && out[i].Time != out[j].Time {
			out[i], out[j] = out[j], out[i]
		}
	}
	return out
}

func TestOrderChangesNothing(t *testing.T) { // E5
	d := draw(41)
	for _, base := range allPlans() {
		for range 50 {
			p := d.shape(base)
			left, right := d.rows(8, p.Left), d.rows(8, p.Right)
			want, _ := Join(p, left, right)
			back := slices.Clone(left)
			slices.Reverse(back)
			for range 4 {
				if got, e := Join(p, back, d.mixed(right)); e != api.OK || !sameView(got, want) {
					t.Fatalf("%v: in another order %v, %v come to %v %d and must come to %v", p, left, right, got, e, want)
				}
			}
		}
	}
}

func turnedPlan(p api.Plan) api.Plan {
	p.Left, p.Right, p.LKeys, p.RKeys = p.Right, p.Left, p.RKeys, p.LKeys
	p.Low, p.High = -p.High, -p.Low
	switch p.Mode {
	case api.LeftOuter:
		p.Mode = api.RightOuter
	case api.RightOuter:
		p.Mode = api.LeftOuter
	}
	return p
}

func TestTurnedRound(t *testing.T) { // E5
	d := draw(43)
	for _, base := range allPlans() {
		for range 50 {
			p := d.shape(base)
			if p.Kind == api.Temporal {
				continue
			}
			left, right := d.rows(8, p.Left), d.rows(8, p.Right)
			var rows [][]api.Value
			v, e := Join(p, left, right)
			for _, c := range v {
				turned := slices.Concat(c.Row[len(p.Left):], c.Row[:len(p.Left)])
				rows = append(rows, slices.Repeat([][]api.Value{turned}, c.N)...)
			}
			got, f := Join(turnedPlan(p), right, left)
			if want := viewOf(rows); e != api.OK || f != api.OK || !sameView(got, want) {
				t.Fatalf("%v: turned round it is %v %d and must be %v", p, got, f, want)
			}
		}
	}
}

// often is how often a row stands in a view, of which only the first cells are looked at.
func often(v []api.Count, begin []api.Value) (n int) {
	for _, c := range v {
		if slices.Equal(c.Row[:len(begin)], begin) {
			n += c.N
		}
	}
	return n
}

func TestModesHoldWhatInnerHas(t *testing.T) { // E5: and each left row stands in those that keep it
	d := draw(47)
	for _, base := range allPlans() {
		for range 50 {
			p := d.shape(base)
			left, right := d.rows(9, p.Left), d.rows(9, p.Right)
			v, _ := Join(p, left, right)
			inner := p
			inner.Mode = api.Inner
			has, _ := Join(inner, left, right)
			for _, c := range has {
				if often(v, c.Row) < c.N {
					t.Fatalf("%v: %v stands in %v less often than in Inner", p, c, v)
				}
			}
			if p.Mode != api.LeftOuter && p.Mode != api.FullOuter {
				continue
			}
			for _, l := range left {
				n := 0
				for _, other := range left {
					if slices.Equal(other.Row, l.Row) {
						n++
					}
				}
				if got := often(v, l.Row); got < n || p.Kind == api.Temporal && got != n {
					t.Fatalf("%v: %v stands there %d times, and came %d times", p, l.Row, got, n)
				}
			}
		}
	}
}

// spare is a list that has room behind it, and what lies there.
func spare[T any](l []T, behind T) (short, whole []T) {
	whole = append(slices.Clone(l), behind, behind)
	return whole[:len(l)], whole
}

func deepRows(l []api.Stamped) []api.Stamped {
	out := slices.Clone(l)
	for i := range out {
		out[i].Row = slices.Clone(out[i].Row)
	}
	return out
}

func deepView(v []api.Count) []api.Count {
	out := slices.Clone(v)
	for i := range out {
		out[i].Row = slices.Clone(out[i].Row)
	}
	return out
}

// spoil writes over all rows of a view, the room behind them too, one by one:
// those behind must stay as they were.
func spoil(t *testing.T, name string, v []api.Count) {
	t.Helper()
	was := deepView(v)
	for i := range v {
		whole := v[i].Row[:cap(v[i].Row)]
		for j := range whole {
			whole[j] = num(-99)
		}
		for j := i + 1; j < len(v); j++ {
			if !slices.Equal(v[j].Row, was[j].Row) {
				t.Errorf("%s: rows %d and %d share memory", name, i, j)
			}
		}
	}
}

func TestMemory(t *testing.T) { // P2
	common, commonRoom := spare(ints(1, 5), num(77))
	left, leftRoom := spare([]api.Stamped{at(0, common...), at(0, common...), at(0, ints(1, 8)...), at(0, ints(2, 2)...), at(0, ints(4, 4)...)}, at(0, ints(1, 1)...))
	right, rightRoom := spare([]api.Stamped{at(0, common...), at(0, ints(1, 6)...), at(0, ints(3, 3)...)}, at(0, ints(1, 1)...))
	wasCommon, wasLeft, wasRight := slices.Clone(commonRoom), deepRows(leftRoom), deepRows(rightRoom)
	view, viewRoom := spare(once(row(null(), null(), num(1), num(1)), ints(1, 2, 3, 4), ints(1, 3, 3, 4)), count(9, ints(9)))
	wasView := deepView(viewRoom)
	for _, p := range allPlans() {
		g := grouped(p, []int{0}, api.Agg{Fn: api.MaxOf, Col: 1})
		joined, _ := Join(p, left, right)
		all, _ := All(p, left, right)
		allGroups, _ := All(g, left, right)
		groups, e := Group(g, view)
		if len(joined) < 2 || len(all) < 2 || len(allGroups) < 1 || len(groups) != 2 || e != api.OK {
			t.Fatalf("kind %d, mode %d: the answers are not as long as they must be", p.Kind, p.Mode)
		}
		spoil(t, "Join", joined)
		spoil(t, "All", all)
		spoil(t, "All of groups", allGroups)
		spoil(t, "Group", groups)
	}
	if !reflect.DeepEqual(commonRoom, wasCommon) || !reflect.DeepEqual(leftRoom, wasLeft) || !reflect.DeepEqual(rightRoom, wasRight) || !reflect.DeepEqual(viewRoom, wasView) {
		t.Error("what was handed in is not as it was")
	}
}

func TestAnswersHangOnWhatIsHandedIn(t *testing.T) { // P3
	d := draw(53)
	for _, p := range allPlans() {
		left, right := d.rows(20, p.Left), d.rows(20, p.Right)
		g := grouped(p, []int{1}, api.Agg{Fn: api.MinOf, Col: 3})
		joined, _ := Join(p, left, right)
		groups, _ := All(g, left, right)
		for range 10 {
			again, _ := Join(p, deepRows(left), deepRows(right))
			groups2, _ := All(g, left, right)
			if !sameView(joined, again) || !sameView(groups, groups2) {
				t.Fatalf("kind %d, mode %d: the same was asked, and the answers are not the same", p.Kind, p.Mode)
			}
		}
	}
}

func TestColumnsThatComeOut(t *testing.T) { // E1, E4: are those that the plan tells
	d := draw(59)
	for _, base := range allPlans() {
		for range 20 {
			p := d.shape(base)
			g := grouped(p, []int{1, 3}, api.Agg{Fn: api.CountOf}, api.Agg{Fn: api.MinOf, Col: 2}, api.Agg{Fn: api.MaxOf, Col: 0})
			for _, q := range []api.Plan{p, g} {
				types, _ := plan.Out(q)
				v, e := All(q, d.rows(8, q.Left), d.rows(8, q.Right))
				if e != api.OK || change.Check(v) != api.OK {
					t.Fatalf("%v: %v %d", q, v, e)
				}
				for _, c := range v {
					if len(c.Row) != len(types) {
						t.Fatalf("%v: %v is not of %v", q, c.Row, types)
					}
					for i, x := range c.Row {
						if x.Kind != api.Null && x.Kind != types[i] {
							t.Fatalf("%v: %v is not of %v", q, c.Row, types)
						}
					}
				}
			}
		}
	}
}
