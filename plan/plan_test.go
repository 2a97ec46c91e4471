package plan

import (
	"math"
	"reflect"
	"slices"
	"strings"
	"testing"

	"meetwater/api"
	"meetwater/times"
	"meetwater/value"
)

func null() api.Value         { return api.Value{} }
func flag(n int) api.Value    { return api.Value{Kind: api.Bool, N: n} }
func num(n int) api.Value     { return api.Value{Kind: api.Int, N: n} }
func word(s string) api.Value { return api.Value{Kind: api.Text, S: s} }

// interval, window and temporal are right plans, each made anew: Left is an
// Int, a Text and a Bool, Right a Text and an Int.
func interval() api.Plan {
	return api.Plan{
		Kind: api.Interval, Mode: api.FullOuter, Low: -5, High: 7, Limit: 2,
		Left: []int{api.Int, api.Text, api.Bool}, Right: []int{api.Text, api.Int},
		LKeys: []int{0, 1}, RKeys: []int{1, 0},
	}
}

func window() api.Plan {
	p := interval()
	p.Kind, p.Low, p.High, p.Size = api.Window, 0, 0, 10
	return p
}

func temporal() api.Plan {
	p := interval()
	p.Kind, p.Low, p.High, p.Mode = api.Temporal, 0, 0, api.LeftOuter
	return p
}

func grouped() api.Plan {
	p := interval()
	p.Grouped, p.Group = true, []int{1, 4}
	p.Aggs = []api.Agg{{Fn: api.CountOf}, {Fn: api.SumOf, Col: 4}, {Fn: api.MinOf, Col: 2}, {Fn: api.MaxOf, Col: 3}}
	return p
}

func rightPlans() []api.Plan { return []api.Plan{interval(), window(), temporal(), grouped()} }

type turn struct {
	name string
	of   func() api.Plan
	do   func(p *api.Plan)
	want api.Errno
}

func checkTurns(t *testing.T, turns []turn) {
	t.Helper()
	for _, c := range turns {
		p := c.of()
		c.do(&p)
		if got := Check(p); got != c.want {
			t.Errorf("%s: %d and must be %d", c.name, got, c.want)
		}
	}
}

func TestRightPlans(t *testing.T) { // D1
	for i, p := range rightPlans() {
		if e := Check(p); e != api.OK {
			t.Errorf("plan %d: %d", i, e)
		}
	}
	if e := Check(api.Plan{}); e != api.ErrKind {
		t.Errorf("a plan without anything: %d", e)
	}
}

func TestKinds(t *testing.T) { // D1, 1
	for kind, of := range map[int]func() api.Plan{api.Interval: interval, api.Window: window, api.Temporal: temporal} {
		for mode := -1; mode <= api.FullOuter+1; mode++ {
			right := mode >= api.Inner && mode <= api.FullOuter
			if kind == api.Temporal {
				right = mode == api.Inner || mode == api.LeftOuter
			}
			p := of()
			p.Mode = mode
			if got := Check(p); (got == api.OK) != right || !right && got != api.ErrKind {
				t.Errorf("kind %d, mode %d: %d", kind, mode, got)
			}
		}
	}
	checkTurns(t, []turn{
		{"kind 0", interval, func(p *api.Plan) { p.Kind = 0 }, api.ErrKind},
		{"kind 4", temporal, func(p *api.Plan) { p.Kind = 4 }, api.ErrKind},
		{"kind below 0", interval, func(p *api.Plan) { p.Kind = math.MinInt }, api.ErrKind},
		{"figure 0", grouped, func(p *api.Plan) { p.Aggs[0].Fn = 0 }, api.ErrKind},
		{"figure 5", grouped, func(p *api.Plan) { p.Aggs[3].Fn = 5 }, api.ErrKind},
		{"figure of a plan that is not grouped", interval, func(p *api.Plan) { p.Aggs = []api.Agg{{Fn: 5}} }, api.ErrMany},
	})
}

func TestRanges(t *testing.T) { // D1, 2
	const m = api.MaxTime
	checkTurns(t, []turn{
		{"the least Low", interval, func(p *api.Plan) { p.Low = -m }, api.OK},
		{"the greatest High", interval, func(p *api.Plan) { p.High = m }, api.OK},
		{"both at one end", interval, func(p *api.Plan) { p.Low, p.High = m, m }, api.OK},
		{"Low below", interval, func(p *api.Plan) { p.Low = -m - 1 }, api.ErrRange},
		{"Low above", interval, func(p *api.Plan) { p.Low = m + 1 }, api.ErrRange},
		{"High above", interval, func(p *api.Plan) { p.High = m + 1 }, api.ErrRange},
		{"High below", interval, func(p *api.Plan) { p.High = -m - 1 }, api.ErrRange},
		{"far out", interval, func(p *api.Plan) { p.Low, p.High = math.MinInt, math.MaxInt }, api.ErrRange},
		{"Size of Interval", interval, func(p *api.Plan) { p.Size = 1 }, api.ErrRange},
		{"Size of Temporal", temporal, func(p *api.Plan) { p.Size = -1 }, api.ErrRange},
		{"Low of Window", window, func(p *api.Plan) { p.Low = -1 }, api.ErrRange},
		{"High of Window", window, func(p *api.Plan) { p.High = 1 }, api.ErrRange},
		{"Low of Temporal", temporal, func(p *api.Plan) { p.Low = -1 }, api.ErrRange},
		{"High of Temporal", temporal, func(p *api.Plan) { p.High = 1 }, api.ErrRange},
		{"Size 0", window, func(p *api.Plan) { p.Size = 0 }, api.ErrRange},
		{"Size 1", window, func(p *api.Plan) { p.Size = 1 }, api.OK},
		{"Size below 0", window, func(p *api.Plan) { p.Size = -10 }, api.ErrRange},
		{"the greatest Size", window, func(p *api.Plan) { p.Size = m }, api.OK},
		{"one more", window, func(p *api.Plan) { p.Size = m + 1 }, api.ErrRange},
		{"Limit 1", interval, func(p *api.Plan) { p.Limit = 1 }, api.OK},
		{"the greatest Limit", window, func(p *api.Plan) { p.Limit = api.MaxLimit }, api.OK},
		{"Limit 0", temporal, func(p *api.Plan) { p.Limit = 0 }, api.ErrRange},
		{"Limit above", interval, func(p *api.Plan) { p.Limit = api.MaxLimit + 1 }, api.ErrRange},
	})
}

func TestCounts(t *testing.T) { // D1, 3
	ints := func(n int) []int { return slices.Repeat([]int{api.Int}, n) }
	wide := func() api.Plan {
		p := interval()
		p.Left, p.Right, p.LKeys, p.RKeys = ints(4), ints(4), []int{0, 1, 2, 3}, []int{3, 2, 1, 0}
		return p
	}
	group := func(places, figures int) func(p *api.Plan) {
		return func(p *api.Plan) {
			p.Grouped, p.Group, p.Aggs = true, nil, slices.Repeat([]api.Agg{{Fn: api.CountOf}}, figures)
			for i := range places {
				p.Group = append(p.Group, i)
			}
		}
	}
	checkTurns(t, []turn{
		{"as many as may be", wide, func(p *api.Plan) {}, api.OK},
		{"no left columns", wide, func(p *api.Plan) { p.Left = nil }, api.ErrMany},
		{"no right columns", wide, func(p *api.Plan) { p.Right = []int{} }, api.ErrMany},
		{"a left column more", wide, func(p *api.Plan) { p.Left = ints(5) }, api.ErrMany},
		{"a right column more", wide, func(p *api.Plan) { p.Right = ints(5) }, api.ErrMany},
		{"no left keys", wide, func(p *api.Plan) { p.LKeys = nil }, api.ErrMany},
		{"no right keys", wide, func(p *api.Plan) { p.RKeys = nil }, api.ErrMany},
		{"no keys", wide, func(p *api.Plan) { p.LKeys, p.RKeys = nil, nil }, api.ErrMany},
		{"a left key more", wide, func(p *api.Plan) { p.LKeys = []int{0, 1, 2, 3, 0} }, api.ErrMany},
		{"a right key more", wide, func(p *api.Plan) { p.RKeys = []int{0, 1, 2, 3, 0} }, api.ErrMany},
		{"no figures", wide, group(1, 0), api.ErrMany},
		{"one figure", wide, group(0, 1), api.OK},
		{"four figures", wide, group(0, 4), api.OK},
		{"five figures", wide, group(0, 5), api.ErrMany},
		{"nine figures", wide, group(0, 9), api.ErrMany},
		{"seven columns and a figure", wide, group(7, 1), api.OK},
		{"eight columns and a figure", wide, group(8, 1), api.ErrMany},
		{"four columns and four figures", wide, group(4, 4), api.OK},
		{"five columns and four figures", wide, group(5, 4), api.ErrMany},
		{"Group, not grouped", wide, func(p *api.Plan) { p.Group = []int{0} }, api.ErrMany},
		{"Aggs, not grouped", wide, func(p *api.Plan) { p.Aggs = []api.Agg{{Fn: api.CountOf}} }, api.ErrMany},
		{"empty lists, not grouped", wide, func(p *api.Plan) { p.Group, p.Aggs = []int{}, []api.Agg{} }, api.OK},
	})
}

func TestTypes(t *testing.T) { // D1, 4
	checkTurns(t, []turn{
		{"a left Null", interval, func(p *api.Plan) { p.Left[2] = api.Null }, api.ErrType},
		{"a left 4", interval, func(p *api.Plan) { p.Left[0] = 4 }, api.ErrType},
		{"a right Null", interval, func(p *api.Plan) { p.Right[0] = api.Null }, api.ErrType},
		{"a right 4", interval, func(p *api.Plan) { p.Right[1] = 4 }, api.ErrType},
		{"a right -1", temporal, func(p *api.Plan) { p.Right[1] = -1 }, api.ErrType},
	})
}

func TestForms(t *testing.T) { // D1, 5
	agg := func(fn, col int) func(p *api.Plan) {
		return func(p *api.Plan) { p.Aggs[1] = api.Agg{Fn: fn, Col: col} }
	}
	group := func(l ...int) func(p *api.Plan) { return func(p *api.Plan) { p.Group = l } }
	keys := func(l, r []int) func(p *api.Plan) { return func(p *api.Plan) { p.LKeys, p.RKeys = l, r } }
	checkTurns(t, []turn{
		{"Low is High", interval, func(p *api.Plan) { p.Low = 7 }, api.OK},
		{"Low above High", interval, func(p *api.Plan) { p.Low = 8 }, api.ErrForm},
		{"one key", interval, keys([]int{1}, []int{0}), api.OK},
		{"more left keys", interval, keys([]int{0, 1}, []int{1}), api.ErrForm},
		{"more right keys", interval, keys([]int{0}, []int{1, 0}), api.ErrForm},
		{"a left key below 0", interval, keys([]int{0, -1}, []int{1, 0}), api.ErrForm},
		{"a left key above", interval, keys([]int{0, 3}, []int{1, 0}), api.ErrForm},
		{"a right key below 0", interval, keys([]int{0, 1}, []int{1, -1}), api.ErrForm},
		{"a right key above", interval, keys([]int{0, 1}, []int{1, 2}), api.ErrForm},
		{"a right key that is a left column", interval, keys([]int{1}, []int{2}), api.ErrForm},
		{"a left key that the right side has not", interval, func(p *api.Plan) { p.Right[0], p.LKeys, p.RKeys = api.Bool, []int{2}, []int{0} }, api.OK},
		{"a right key that the left side has not", interval, func(p *api.Plan) { p.Left, p.Right, p.LKeys, p.RKeys = []int{api.Bool}, p.Left, []int{0}, []int{2} }, api.OK},
		{"a left key that only the right side has", interval, func(p *api.Plan) { p.Left, p.Right, p.LKeys, p.RKeys = p.Right, p.Left, []int{2}, []int{2} }, api.ErrForm},
		{"keys far out", interval, keys([]int{math.MaxInt}, []int{math.MinInt}), api.ErrForm},
		{"a left key twice", interval, func(p *api.Plan) { p.Right[0], p.LKeys = api.Int, []int{0, 0} }, api.ErrForm},
		{"a right key twice", interval, func(p *api.Plan) { p.Left[1], p.RKeys = api.Int, []int{1, 1} }, api.ErrForm},
		{"keys of other types", interval, keys([]int{0, 1}, []int{0, 1}), api.ErrForm},
		{"the second key of another type", interval, keys([]int{0, 2}, []int{1, 0}), api.ErrForm},
		{"no group columns", grouped, group(), api.OK},
		{"the last column", grouped, group(4), api.OK},
		{"a group column above", grouped, group(5), api.ErrForm},
		{"a group column below 0", grouped, group(0, -1), api.ErrForm},
		{"a group column twice", grouped, group(1, 3, 1), api.ErrForm},
		{"falling group columns", grouped, group(3, 2, 0), api.OK},
		{"a count of a column", grouped, agg(api.CountOf, 1), api.ErrForm},
		{"a count below 0", grouped, agg(api.CountOf, -1), api.ErrForm},
		{"a sum of the first column", grouped, agg(api.SumOf, 0), api.OK},
		{"a sum of Texts", grouped, agg(api.SumOf, 1), api.ErrForm},
		{"a sum of Bools", grouped, agg(api.SumOf, 2), api.ErrForm},
		{"a sum of the right Texts", grouped, agg(api.SumOf, 3), api.ErrForm},
		{"a sum of no column", grouped, agg(api.SumOf, 5), api.ErrForm},
		{"a sum below 0", grouped, agg(api.SumOf, -1), api.ErrForm},
		{"a least Bool", grouped, agg(api.MinOf, 2), api.OK},
		{"a least of no column", grouped, agg(api.MinOf, 5), api.ErrForm},
		{"a greatest Text", grouped, agg(api.MaxOf, 3), api.OK},
		{"a greatest of no column", grouped, agg(api.MaxOf, -1), api.ErrForm},
		{"far out", grouped, agg(api.MaxOf, math.MaxInt), api.ErrForm},
		{"one figure twice", grouped, agg(api.CountOf, 0), api.OK},
	})
}

func TestWhichErrorIsFirst(t *testing.T) { // D1, P1
	faults := []struct {
		do   func(p *api.Plan)
		want api.Errno
	}{
		{func(p *api.Plan) { p.Mode = 9 }, api.ErrKind},
		{func(p *api.Plan) { p.Limit = 0 }, api.ErrRange},
		{func(p *api.Plan) { p.LKeys = nil }, api.ErrMany},
		{func(p *api.Plan) { p.Right = []int{api.Text, 9} }, api.ErrType},
		{func(p *api.Plan) { p.Group = []int{1, 1} }, api.ErrForm},
	}
	for set := range 1 << len(faults) {
		p, want := grouped(), api.OK
		for i := len(faults) - 1; i >= 0; i-- {
			if set>>i&1 == 1 {
				faults[i].do(&p)
				want = faults[i].want
			}
		}
		if got := Check(p); got != want {
			t.Errorf("faults %05b: %d and must be %d", set, got, want)
		}
		out, e := Out(p)
		key, has, f := KeyOf(p, api.Left, []api.Value{num(1), word("a"), flag(1)})
		gone, g := Gone(p, api.Left, 100)
		if r := Row(p, api.Left, []api.Value{num(1), word("a"), flag(1)}); e != want || f != want || g != want || r != want {
			t.Errorf("faults %05b: Out %d, KeyOf %d, Gone %d, Row %d and must be %d", set, e, f, g, r, want)
		}
		if want != api.OK && (len(out) != 0 || key != "" || has || gone != 0) {
			t.Errorf("faults %05b: %v %q %v %d beside an error", set, out, key, has, gone)
		}
	}
}

func TestTheOthersTellCheckFirst(t *testing.T) { // D1, P1: ahead of the errors of their own
	p := interval()
	p.LKeys = []int{9}
	_, _, f := KeyOf(p, 7, nil)
	_, g := Gone(p, 7, math.MaxInt)
	if e := Row(p, 7, nil); e != api.ErrForm || f != api.ErrForm || g != api.ErrForm {
		t.Errorf("Row %d, KeyOf %d, Gone %d", e, f, g)
	}
}

func TestOut(t *testing.T) { // D2
	all := []int{api.Int, api.Text, api.Bool, api.Text, api.Int}
	bare := grouped()
	bare.Group, bare.Aggs = nil, []api.Agg{{Fn: api.MaxOf, Col: 2}}
	full := grouped()
	full.Group, full.Aggs = []int{4, 3, 2, 1}, []api.Agg{{Fn: api.MaxOf, Col: 1}, {Fn: api.MinOf, Col: 0}, {Fn: api.SumOf}, {Fn: api.CountOf}}
	texts := api.Plan{Kind: api.Temporal, Mode: api.Inner, Limit: 1, Left: []int{api.Text}, Right: []int{api.Text}, LKeys: []int{0}, RKeys: []int{0}, Grouped: true, Aggs: []api.Agg{{Fn: api.CountOf}}}
	for name, c := range map[string]struct {
		p    api.Plan
		want []int
	}{
		"a count of texts": {texts, []int{api.Int}},
		"interval":         {interval(), all},
		"window":           {window(), all},
		"temporal":         {temporal(), all},
		"grouped":          {grouped(), []int{api.Text, api.Int, api.Int, api.Int, api.Bool, api.Text}},
		"no group columns": {bare, []int{api.Bool}},
		"as many as may":   {full, []int{api.Int, api.Text, api.Bool, api.Text, api.Text, api.Int, api.Int, api.Int}},
	} {
		if got, e := Out(c.p); e != api.OK || !slices.Equal(got, c.want) {
			t.Errorf("%s: %v %d and must be %v", name, got, e, c.want)
		}
	}
}

func TestRow(t *testing.T) { // D3, P1
	long, bad := word(strings.Repeat("x", api.MaxText+1)), flag(2)
	right := []api.Value{num(1), word("a"), flag(0)}
	for name, c := range map[string]struct {
		side int
		row  []api.Value
		want api.Errno
	}{
		"left":                         {api.Left, right, api.OK},
		"right":                        {api.Right, []api.Value{word(""), num(math.MinInt)}, api.OK},
		"all Null":                     {api.Left, []api.Value{null(), null(), null()}, api.OK},
		"the longest text":             {api.Left, []api.Value{num(1), word(long.S[1:]), null()}, api.OK},
		"no side":                      {0, right, api.ErrKind},
		"side 3":                       {3, right, api.ErrKind},
		"side -1, and nothing right":   {-1, []api.Value{bad}, api.ErrKind},
		"no cells":                     {api.Left, nil, api.ErrMany},
		"a cell less":                  {api.Left, right[:2], api.ErrMany},
		"a cell more":                  {api.Right, []api.Value{word(""), num(1), null()}, api.ErrMany},
		"the other side's":             {api.Right, right, api.ErrMany},
		"a cell more, and wrong":       {api.Right, []api.Value{word(""), num(1), bad}, api.ErrMany},
		"no kind":                      {api.Left, []api.Value{num(1), {Kind: 4}, flag(0)}, api.ErrKind},
		"no form":                      {api.Left, []api.Value{num(1), word("a"), bad}, api.ErrForm},
		"too long":                     {api.Right, []api.Value{long, num(1)}, api.ErrMany},
		"the first that has an error":  {api.Left, []api.Value{num(1), long, bad}, api.ErrMany},
		"the first, turned round":      {api.Left, []api.Value{bad, long, {Kind: 9}}, api.ErrForm},
		"a Null with something":        {api.Left, []api.Value{{N: 1}, word("a"), flag(0)}, api.ErrForm},
		"a Text for an Int":            {api.Left, []api.Value{word("a"), word("a"), flag(0)}, api.ErrType},
		"an Int for a Bool":            {api.Left, []api.Value{num(1), word("a"), num(1)}, api.ErrType},
		"a Bool for an Int":            {api.Right, []api.Value{word(""), flag(1)}, api.ErrType},
		"a type ahead of a wrong cell": {api.Left, []api.Value{word("a"), word("a"), bad}, api.ErrForm},
	} {
		if got := Row(interval(), c.side, c.row); got != c.want {
			t.Errorf("%s: %d and must be %d", name, got, c.want)
		}
		if key, has, e := KeyOf(interval(), c.side, c.row); e != c.want || e != api.OK && (key != "" || has) {
			t.Errorf("%s: KeyOf is %q %v %d and must be %d", name, key, has, e, c.want)
		}
	}
}

func TestKeyOf(t *testing.T) { // D3
	one := interval()
	one.LKeys, one.RKeys = []int{1}, []int{0}
	turned := interval()
	turned.LKeys, turned.RKeys = []int{1, 0}, []int{0, 1}
	left, right := []api.Value{num(-1), word("a"), null()}, []api.Value{word("a"), num(-1)}
	for name, c := range map[string]struct {
		p    api.Plan
		side int
		row  []api.Value
		want []api.Value // no cells: it has no key
	}{
		"left":                      {interval(), api.Left, left, []api.Value{num(-1), word("a")}},
		"right":                     {interval(), api.Right, right, []api.Value{num(-1), word("a")}},
		"left, in another order":    {turned, api.Left, left, []api.Value{word("a"), num(-1)}},
		"right, in another order":   {turned, api.Right, right, []api.Value{word("a"), num(-1)}},
		"left, one column":          {one, api.Left, []api.Value{null(), word("\x00"), null()}, []api.Value{word("\x00")}},
		"right, one column":         {one, api.Right, []api.Value{word(""), null()}, []api.Value{word("")}},
		"of window":                 {window(), api.Left, left, []api.Value{num(-1), word("a")}},
		"of temporal":               {temporal(), api.Right, right, []api.Value{num(-1), word("a")}},
		"the first key is Null":     {interval(), api.Left, []api.Value{null(), word("a"), flag(1)}, nil},
		"the second key is Null":    {interval(), api.Left, []api.Value{num(1), null(), flag(1)}, nil},
		"both are":                  {interval(), api.Left, []api.Value{null(), null(), flag(1)}, nil},
		"the first right one":       {interval(), api.Right, []api.Value{word("a"), null()}, nil},
		"the second right one":      {interval(), api.Right, []api.Value{null(), num(1)}, nil},
		"one column, which is Null": {one, api.Right, []api.Value{null(), num(1)}, nil},
	} {
		want, _ := value.Key(c.want)
		if key, has, e := KeyOf(c.p, c.side, c.row); key != want || has != (len(c.want) > 0) || e != api.OK {
			t.Errorf("%s: %q %v %d and must be %q", name, key, has, e, want)
		}
	}
}

func TestGone(t *testing.T) { // D4
	const m = api.MaxTime
	five, ahead, wide := interval(), interval(), interval()
	five.High = 5
	ahead.Low, ahead.High = -9, -4
	wide.Low, wide.High = -m, m
	odd, huge := window(), window()
	odd.Size = 3
	huge.Size = m
	for name, c := range map[string]struct {
		p          api.Plan
		side, mark int
		want       int
	}{
		"example 4":                      {five, api.Right, 9, 4},
		"left":                           {interval(), api.Left, 9, 2},
		"right":                          {interval(), api.Right, 9, 4},
		"left of a span ahead":           {ahead, api.Left, 9, 13},
		"right of a span ahead":          {ahead, api.Right, 9, 0},
		"the greatest mark, left":        {interval(), api.Left, m, m},
		"the greatest mark, right":       {interval(), api.Right, m, m},
		"the least mark, left":           {interval(), api.Left, -m, -m - 7},
		"the least mark, right":          {interval(), api.Right, -m, -m - 5},
		"the widest span, left":          {wide, api.Left, -m, -2 * m},
		"the widest span, right":         {wide, api.Right, m - 1, -1},
		"window, within":                 {window(), api.Left, 5, -1},
		"window, the last time":          {window(), api.Left, 9, 9},
		"window, the first":              {window(), api.Right, 10, 9},
		"window, the last but one":       {window(), api.Right, 8, -1},
		"window, ahead of 0":             {window(), api.Left, -2, -11},
		"window, right ahead of 0":       {window(), api.Right, -1, -1},
		"window of 3":                    {odd, api.Left, 7, 5},
		"window, the greatest mark":      {window(), api.Left, m, m},
		"window, the greatest but one":   {huge, api.Right, m - 1, m - 1},
		"window, the least mark":         {huge, api.Right, -m, -m - 1},
		"temporal, left":                 {temporal(), api.Left, 9, 9},
		"temporal, left, greatest mark":  {temporal(), api.Left, m, m},
		"temporal, left, least mark":     {temporal(), api.Left, -m, -m},
		"temporal, right":                {temporal(), api.Right, 9, -m - 1},
		"temporal, right, greatest mark": {temporal(), api.Right, m, -m - 1},
		"grouped":                        {grouped(), api.Left, 9, 2},
	} {
		if got, e := Gone(c.p, c.side, c.mark); got != c.want || e != api.OK {
			t.Errorf("%s: %d %d and must be %d", name, got, e, c.want)
		}
	}
}

func TestGoneErrors(t *testing.T) { // D4, P1
	for _, p := range rightPlans() {
		for _, c := range []struct {
			side, mark int
			want       api.Errno
		}{
			{0, 1, api.ErrKind}, {3, 1, api.ErrKind}, {-1, 1, api.ErrKind}, {3, api.MaxTime + 1, api.ErrKind},
			{api.Left, api.MaxTime + 1, api.ErrRange}, {api.Left, api.NoMark, api.ErrRange}, {api.Right, math.MaxInt, api.ErrRange}, {api.Right, math.MinInt, api.ErrRange},
		} {
			if got, e := Gone(p, c.side, c.mark); got != 0 || e != c.want {
				t.Errorf("kind %d, side %d, mark %d: %d %d and must be %d", p.Kind, c.side, c.mark, got, e, c.want)
			}
		}
	}
}

// meet tells whether a left and a right row of these times could meet; of
// Temporal, whether the right one could be the left one's version.
func meet(p api.Plan, l, r int) bool {
	switch p.Kind {
	case api.Interval:
		is, _ := times.Meets(l, r, p.Low, p.High)
		return is
	case api.Window:
		a, _, _ := times.Window(l, p.Size)
		b, _, _ := times.Window(r, p.Size)
		return a == b
	}
	return r <= l
}

func TestGoneIsTheGreatestTime(t *testing.T) { // D4: all ahead of it meet nobody behind the mark, the next one does
	var plans []api.Plan
	for low := -6; low <= 6; low++ {
		for high := low; high <= 6; high += 3 {
			p := interval()
			p.Low, p.High = low, high
			plans = append(plans, p)
		}
	}
	for _, size := range []int{1, 2, 3, 7, 10} {
		p := window()
		p.Size = size
		plans = append(plans, p)
	}
	plans = append(plans, temporal())
	for _, p := range plans {
		for _, side := range []int{api.Left, api.Right} {
			for mark := -12; mark <= 12; mark++ {
				if p.Kind == api.Temporal && side == api.Right {
					continue // a version of whatever time may be asked for
				}
				want := 60
				for t := 30; t >= -30; t-- {
					for other := mark + 1; other < mark+40; other++ {
						if side == api.Left && meet(p, t, other) || side == api.Right && meet(p, other, t) {
							want = t - 1
						}
					}
				}
				if got, e := Gone(p, side, mark); got != want || e != api.OK {
					t.Errorf("kind %d, %d to %d, size %d, side %d, mark %d: %d %d and must be %d", p.Kind, p.Low, p.High, p.Size, side, mark, got, e, want)
				}
			}
		}
	}
}

// spare is a list that has room behind it, and what lies there.
func spare[T any](l []T, behind T) (short, whole []T) {
	whole = append(slices.Clone(l), behind, behind)
	return whole[:len(l)], whole
}

func TestWhatIsHandedInIsOnlyRead(t *testing.T) { // P2
	p := grouped()
	was := grouped()
	left, leftRoom := spare(p.Left, 77)
	right, rightRoom := spare(p.Right, 77)
	group, groupRoom := spare(p.Group, 77)
	keys, keysRoom := spare(p.LKeys, 77)
	aggs, aggsRoom := spare(p.Aggs, api.Agg{Fn: 77})
	p.Left, p.Right, p.Group, p.LKeys, p.Aggs = left, right, group, keys, aggs
	row, rowRoom := spare([]api.Value{num(1), word("a"), flag(1)}, num(77))
	plain := p
	plain.Grouped, plain.Group, plain.Aggs = false, nil, nil
	for range 2 {
		for _, q := range []api.Plan{p, plain} {
			Check(q)
			out, _ := Out(q)
			for i := range out[:cap(out)] {
				out[:cap(out)][i] = 99
			}
			Row(q, api.Left, row)
			KeyOf(q, api.Left, row)
			Gone(q, api.Left, 3)
		}
	}
	if !reflect.DeepEqual(p, was) || !reflect.DeepEqual(rowRoom, []api.Value{num(1), word("a"), flag(1), num(77), num(77)}) {
		t.Errorf("what was handed in is not as it was: %v, %v", p, rowRoom)
	}
	for _, room := range [][]int{leftRoom, rightRoom, groupRoom, keysRoom} {
		if !slices.Equal(room[len(room)-2:], []int{77, 77}) {
			t.Errorf("the room behind a list is %v", room)
		}
	}
	if aggsRoom[len(aggsRoom)-1].Fn != 77 || aggsRoom[len(aggsRoom)-2].Fn != 77 {
		t.Errorf("the room behind the figures is %v", aggsRoom)
	}
}

func TestAnswersHangOnWhatIsHandedIn(t *testing.T) { // P3
	for _, p := range rightPlans() {
		out, _ := Out(p)
		gone, _ := Gone(p, api.Left, 11)
		Check(api.Plan{})
		Out(temporal())
		Gone(window(), api.Right, 3)
		out2, _ := Out(p)
		if gone2, _ := Gone(p, api.Left, 11); gone2 != gone || !slices.Equal(out, out2) {
			t.Errorf("kind %d: the same was asked, and the answers are not the same", p.Kind)
		}
	}
}
