package change

import (
	"math"
	"reflect"
	"slices"
	"strings"
	"testing"

	"meetwater/api"
	"meetwater/value"
)

func num(n int) api.Value     { return api.Value{Kind: api.Int, N: n} }
func word(s string) api.Value { return api.Value{Kind: api.Text, S: s} }

// ints is a row of Ints.
func ints(ns ...int) []api.Value {
	row := []api.Value{}
	for _, n := range ns {
		row = append(row, num(n))
	}
	return row
}

func count(n int, row []api.Value) api.Count      { return api.Count{Row: row, N: n} }
func insert(row []api.Value) api.Change           { return api.Change{Kind: api.Insert, Row: row} }
func remove(row []api.Value) api.Change           { return api.Change{Kind: api.Delete, Row: row} }
func before(row []api.Value) api.Change           { return api.Change{Kind: api.Before, Row: row} }
func after(row []api.Value) api.Change            { return api.Change{Kind: api.After, Row: row} }
func sameCount(a, b api.Count) bool               { return a.N == b.N && slices.Equal(a.Row, b.Row) }
func sameChange(a, b api.Change) bool             { return a.Kind == b.Kind && slices.Equal(a.Row, b.Row) }
func sameView(a, b []api.Count) bool              { return slices.EqualFunc(a, b, sameCount) }
func sameList(a, b []api.Change) bool             { return slices.EqualFunc(a, b, sameChange) }
func times(n int, c api.Change) (l []api.Change)  { return slices.Repeat([]api.Change{c}, n) }
func list(parts ...[]api.Change) (l []api.Change) { return slices.Concat(parts...) }

// manyRows is a view of n rows, each of them once.
func manyRows(n int) []api.Count {
	v := []api.Count{}
	for i := range n {
		v = append(v, count(1, ints(i)))
	}
	return v
}

// Wrong rows, each with the error of its key.
var (
	wrongKind = []api.Value{num(1), {Kind: 9}}
	wrongForm = []api.Value{{Kind: api.Bool, N: 2}}
	wrongText = []api.Value{word(strings.Repeat("x", api.MaxText+1))}
	wrongMany = slices.Repeat([]api.Value{num(1)}, api.MaxCells+1)
)

// draw gives numbers that are the same each time.
type draw uint64

func (d *draw) n(n int) int {
	*d = *d*6364136223846793005 + 1442695040888963407
	return int(uint64(*d) >> 33 % uint64(n))
}

// row is one of few, so that the same ones come again.
func (d *draw) row() []api.Value {
	cells := []api.Value{{}, {Kind: api.Bool, N: 1}, num(-1), num(3), word(""), word("a\x00")}
	row := make([]api.Value, d.n(3))
	for i := range row {
		row[i] = cells[d.n(len(cells))]
	}
	return row
}

// list is changes that are right, whether they can be done or not.
func (d *draw) list(n int) []api.Change {
	var l []api.Change
	for range n {
		switch d.n(4) {
		case 0:
			l = append(l, remove(d.row()))
		case 1:
			l = append(l, before(d.row()), after(d.row()))
		default:
			l = append(l, insert(d.row()))
		}
	}
	return l
}

// grown is a view that comes of drawn changes, as far as they can be done.
func (d *draw) grown(t *testing.T, n int) []api.Count {
	var v []api.Count
	for range n {
		if next, e := Add(v, d.row(), d.n(6)-2); e == api.OK {
			v = next
		}
	}
	if e := Check(v); e != api.OK {
		t.Fatalf("a view that Add made is %v: %d", v, e)
	}
	return v
}

// addPlainly is Add of a right view, row and number, by going through all rows.
func addPlainly(v []api.Count, row []api.Value, n int) ([]api.Count, api.Errno) {
	var out []api.Count
	had := 0
	for _, c := range v {
		if slices.Equal(c.Row, row) {
			had = c.N
		} else {
			out = append(out, c)
		}
	}
	if had+n < 0 {
		return nil, api.ErrNone
	}
	if had+n > 0 {
		out = append(out, count(had+n, row))
	}
	if had+n > api.MaxCount || len(out) > api.MaxRows {
		return nil, api.ErrMany
	}
	slices.SortFunc(out, func(a, b api.Count) int { return value.Rows(a.Row, b.Row) })
	return out, api.OK
}

func TestCheck(t *testing.T) { // C1
	many := manyRows(api.MaxRows + 1)
	for name, c := range map[string]struct {
		v    []api.Count
		want api.Errno
	}{
		"no rows":              {nil, api.OK},
		"an empty list":        {[]api.Count{}, api.OK},
		"a row without cells":  {[]api.Count{count(1, nil), count(1, ints(1))}, api.OK},
		"bounds of N":          {[]api.Count{count(1, ints(1)), count(api.MaxCount, ints(2))}, api.OK},
		"a beginning first":    {[]api.Count{count(1, ints(1)), count(1, ints(1, 0)), count(1, ints(2))}, api.OK},
		"as many as may be":    {many[:api.MaxRows], api.OK},
		"one more":             {many, api.ErrMany},
		"one more, and wrong":  {append(manyRows(api.MaxRows), count(0, wrongKind)), api.ErrMany},
		"N 0":                  {[]api.Count{count(0, ints(1))}, api.ErrForm},
		"N below 0":            {[]api.Count{count(-1, ints(1))}, api.ErrForm},
		"N above":              {[]api.Count{count(api.MaxCount+1, ints(1))}, api.ErrForm},
		"N far above":          {[]api.Count{count(math.MaxInt, ints(1))}, api.ErrForm},
		"falling":              {[]api.Count{count(1, ints(2)), count(1, ints(1))}, api.ErrForm},
		"falling at the end":   {[]api.Count{count(1, ints(1)), count(1, ints(3)), count(1, ints(2))}, api.ErrForm},
		"the same":             {[]api.Count{count(1, ints(1)), count(1, ints(1))}, api.ErrForm},
		"two without cells":    {[]api.Count{count(1, nil), count(1, []api.Value{})}, api.ErrForm},
		"a beginning behind":   {[]api.Count{count(1, ints(1, 0)), count(1, ints(1))}, api.ErrForm},
		"no such kind":         {[]api.Count{count(1, wrongKind)}, api.ErrForm},
		"a wrong value":        {[]api.Count{count(1, wrongForm)}, api.ErrForm},
		"a long text":          {[]api.Count{count(1, wrongText)}, api.ErrForm},
		"too many cells":       {[]api.Count{count(1, wrongMany)}, api.ErrForm},
		"the last one is none": {[]api.Count{count(1, nil), count(1, wrongKind)}, api.ErrForm},
	} {
		if got := Check(c.v); got != c.want {
			t.Errorf("%s: %d and must be %d", name, got, c.want)
		}
	}
}

func TestAdd(t *testing.T) { // C1
	v := []api.Count{count(2, ints(1)), count(1, ints(3))}
	for _, c := range []struct {
		row  []api.Value
		n    int
		want []api.Count
	}{
		{ints(1), 1, []api.Count{count(3, ints(1)), count(1, ints(3))}},
		{ints(1), -1, []api.Count{count(1, ints(1)), count(1, ints(3))}},
		{ints(1), -2, []api.Count{count(1, ints(3))}},
		{ints(1), 0, v},
		{ints(9), 0, v},
		{ints(1), api.MaxCount - 2, []api.Count{count(api.MaxCount, ints(1)), count(1, ints(3))}},
		{nil, 4, []api.Count{count(4, nil), v[0], v[1]}},
		{ints(2), 4, []api.Count{v[0], count(4, ints(2)), v[1]}},
		{ints(1, 7), 4, []api.Count{v[0], count(4, ints(1, 7)), v[1]}},
		{[]api.Value{word("")}, api.MaxCount, []api.Count{v[0], v[1], count(api.MaxCount, []api.Value{word("")})}},
	} {
		if got, e := Add(v, c.row, c.n); e != api.OK || !sameView(got, c.want) {
			t.Errorf("Add of %v, %d is %v %d and must be %v", c.row, c.n, got, e, c.want)
		}
	}
}

func TestAddErrors(t *testing.T) { // C1, P1
	v := []api.Count{count(2, ints(1)), count(api.MaxCount, ints(3))}
	wrong := []api.Count{count(0, ints(1))}
	full := manyRows(api.MaxRows)
	for name, c := range map[string]struct {
		v    []api.Count
		row  []api.Value
		n    int
		want api.Errno
	}{
		"the view first":     {wrong, wrongKind, math.MaxInt, api.ErrForm},
		"a view too long":    {manyRows(api.MaxRows + 1), wrongKind, 1, api.ErrMany},
		"then the row":       {v, wrongKind, math.MaxInt, api.ErrKind},
		"a wrong value":      {v, wrongForm, math.MinInt, api.ErrForm},
		"a long text":        {v, wrongText, 1, api.ErrMany},
		"too many cells":     {v, wrongMany, 0, api.ErrMany},
		"then n":             {v, ints(3), api.MaxCount + 1, api.ErrRange},
		"n below":            {v, ints(1), -api.MaxCount - 1, api.ErrRange},
		"n far above":        {v, ints(3), math.MaxInt, api.ErrRange},
		"n far below":        {v, ints(1), math.MinInt, api.ErrRange},
		"less than there is": {v, ints(1), -3, api.ErrNone},
		"not there":          {v, ints(2), -1, api.ErrNone},
		"n at its bound":     {v, ints(2), -api.MaxCount, api.ErrNone},
		"too often":          {v, ints(3), 1, api.ErrMany},
		"too often, by far":  {v, ints(1), api.MaxCount, api.ErrMany},
		"a row too many":     {full, ints(-1), 1, api.ErrMany},
	} {
		if got, e := Add(c.v, c.row, c.n); len(got) != 0 || e != c.want {
			t.Errorf("%s: %d and must be %d", name, e, c.want)
		}
	}
}

func TestAddToAFullView(t *testing.T) { // C1
	full := manyRows(api.MaxRows)
	for _, c := range []struct {
		row   []api.Value
		n, to int
	}{{ints(-1), 0, api.MaxRows}, {ints(5), 1, api.MaxRows}, {ints(5), -1, api.MaxRows - 1}} {
		if got, e := Add(full, c.row, c.n); e != api.OK || len(got) != c.to || Check(got) != api.OK {
			t.Errorf("%v, %d: %d rows, %d", c.row, c.n, len(got), e)
		}
	}
}

func TestAddAsWhoGoesThroughAllRows(t *testing.T) { // C1
	d := draw(5)
	var v []api.Count
	for range 3000 {
		row, n := d.row(), d.n(7)-3
		got, e := Add(v, row, n)
		want, f := addPlainly(v, row, n)
		if e != f || !sameView(got, want) {
			t.Fatalf("Add(%v, %v, %d) is %v %d and must be %v %d", v, row, n, got, e, want, f)
		}
		if e == api.OK {
			v = got
		}
	}
}

func TestForm(t *testing.T) { // C2
	a, b := ints(1), ints(2)
	none := api.Change{Kind: 9, Row: a}
	for name, c := range map[string]struct {
		l    []api.Change
		want api.Errno
	}{
		"nothing":                  {nil, api.OK},
		"all four":                 {[]api.Change{insert(a), before(a), after(b), remove(b)}, api.OK},
		"two pairs":                {[]api.Change{before(a), after(b), before(b), after(a)}, api.OK},
		"a pair of one row":        {[]api.Change{before(a), after(a)}, api.OK},
		"rows without cells":       {[]api.Change{insert(nil), remove([]api.Value{})}, api.OK},
		"as many as may be":        {times(api.MaxRows, insert(a)), api.OK},
		"one more":                 {times(api.MaxRows+1, insert(a)), api.ErrMany},
		"one more, and wrong":      {times(api.MaxRows+1, none), api.ErrMany},
		"kind 0":                   {[]api.Change{{Row: a}}, api.ErrKind},
		"kind 5":                   {[]api.Change{{Kind: 5, Row: a}}, api.ErrKind},
		"kind below 0":             {[]api.Change{{Kind: -1, Row: a}}, api.ErrKind},
		"the kind ahead of a row":  {[]api.Change{{Kind: 9, Row: wrongForm}}, api.ErrKind},
		"a row ahead of the pair":  {[]api.Change{before(wrongForm)}, api.ErrForm},
		"a row behind its Before":  {[]api.Change{before(a), after(wrongText)}, api.ErrMany},
		"too many cells":           {[]api.Change{insert(a), remove(wrongMany)}, api.ErrMany},
		"no such kind of value":    {[]api.Change{insert(wrongKind)}, api.ErrKind},
		"a Before alone":           {[]api.Change{before(a)}, api.ErrPair},
		"a Before at the end":      {[]api.Change{before(a), after(b), before(b)}, api.ErrPair},
		"an After alone":           {[]api.Change{after(a)}, api.ErrPair},
		"an After behind an After": {[]api.Change{before(a), after(b), after(a)}, api.ErrPair},
		"two Befores":              {[]api.Change{before(a), before(a), after(b)}, api.ErrPair},
		"something between":        {[]api.Change{before(a), insert(a), after(b)}, api.ErrPair},
		"the wrong way round":      {[]api.Change{after(b), before(a)}, api.ErrPair},
		"the first change first":   {[]api.Change{before(a), none}, api.ErrPair},
		"the pair, then a row":     {[]api.Change{after(a), insert(wrongForm)}, api.ErrPair},
		"a row, then a kind":       {[]api.Change{insert(wrongForm), none}, api.ErrForm},
	} {
		if got := Form(c.l); got != c.want {
			t.Errorf("%s: %d and must be %d", name, got, c.want)
		}
	}
}

func TestFold(t *testing.T) { // C2
	a, b, c := ints(1), ints(2), ints(3)
	v := []api.Count{count(1, a), count(2, b)}
	for name, x := range map[string]struct {
		l    []api.Change
		want []api.Count
	}{
		"nothing":               {nil, v},
		"insert":                {[]api.Change{insert(c), insert(a)}, []api.Count{count(2, a), count(2, b), count(1, c)}},
		"delete":                {[]api.Change{remove(a), remove(b)}, []api.Count{count(1, b)}},
		"all":                   {[]api.Change{remove(a), remove(b), remove(b)}, nil},
		"in its place":          {[]api.Change{before(a), after(c)}, []api.Count{count(2, b), count(1, c)}},
		"the same in its place": {[]api.Change{before(a), after(a)}, v},
		"first there":           {[]api.Change{insert(c), remove(c)}, v},
	} {
		if got, at, e := Fold(v, x.l); e != api.OK || at != 0 || !sameView(got, x.want) {
			t.Errorf("%s: %v %d %d and must be %v", name, got, at, e, x.want)
		}
	}
	if got, at, e := Fold([]api.Count{count(1, a)}, []api.Change{before(a), after(b)}); e != api.OK || at != 0 || !sameView(got, []api.Count{count(1, b)}) {
		t.Errorf("a view with 1 once, and Before 1, After 2: %v %d %d", got, at, e)
	}
}

func TestFoldErrors(t *testing.T) { // C2, P1
	a, b := ints(1), ints(2)
	v := []api.Count{count(1, a), count(api.MaxCount, b)}
	wrong := []api.Count{count(1, b), count(1, a)}
	full := manyRows(api.MaxRows)
	for name, c := range map[string]struct {
		v    []api.Count
		l    []api.Change
		at   int
		want api.Errno
	}{
		"the view first":          {wrong, []api.Change{insert(a), {Kind: 9}}, 0, api.ErrForm},
		"too long a view":         {manyRows(api.MaxRows + 1), []api.Change{{Kind: 9}}, 0, api.ErrMany},
		"then all changes' form":  {v, []api.Change{remove(a), remove(a), {Kind: 9}}, 0, api.ErrKind},
		"a pair":                  {v, []api.Change{remove(a), remove(a), before(a)}, 0, api.ErrPair},
		"a row":                   {v, []api.Change{insert(a), insert(wrongForm)}, 0, api.ErrForm},
		"too many":                {v, times(api.MaxRows+1, insert(a)), 0, api.ErrMany},
		"not there at once":       {v, []api.Change{remove(ints(7))}, 0, api.ErrNone},
		"not there any more":      {v, []api.Change{insert(a), remove(a), remove(a), remove(a), insert(a)}, 3, api.ErrNone},
		"not there yet":           {nil, []api.Change{remove(a), insert(a)}, 0, api.ErrNone},
		"a Before of nothing":     {v, []api.Change{remove(a), before(a), after(b)}, 1, api.ErrNone},
		"too often":               {v, []api.Change{insert(a), insert(b), remove(b)}, 1, api.ErrMany},
		"an After too often":      {v, []api.Change{before(a), after(b)}, 1, api.ErrMany},
		"a row too many":          {full, []api.Change{insert(ints(5)), insert(ints(-1)), remove(ints(5))}, 1, api.ErrMany},
		"a row too many, a pair":  {append(manyRows(api.MaxRows-1), count(2, ints(api.MaxRows))), []api.Change{before(ints(api.MaxRows)), after(ints(-1))}, 1, api.ErrMany},
		"the first of two errors": {v, []api.Change{insert(b), remove(ints(7))}, 0, api.ErrMany},
	} {
		if got, at, e := Fold(c.v, c.l); len(got) != 0 || at != c.at || e != c.want {
			t.Errorf("%s: place %d, %d and must be %d, %d", name, at, e, c.at, c.want)
		}
	}
}

func TestFoldOfAFullView(t *testing.T) { // C2
	full := manyRows(api.MaxRows)
	got, at, e := Fold(full, []api.Change{before(ints(0)), after(ints(-1)), remove(ints(7)), insert(ints(api.MaxRows))})
	if e != api.OK || at != 0 || len(got) != api.MaxRows || Check(got) != api.OK {
		t.Errorf("%d rows, place %d, %d", len(got), at, e)
	}
}

func TestFoldIsAddChangeByChange(t *testing.T) { // C2
	d := draw(11)
	for range 500 {
		v, l := d.grown(t, 12), d.list(8)
		want, at, f := v, 0, api.OK
		for i, c := range l {
			n := map[int]int{api.Insert: 1, api.After: 1, api.Delete: -1, api.Before: -1}[c.Kind]
			if want, f = addPlainly(want, c.Row, n); f != api.OK {
				at = i
				break
			}
		}
		if got, place, e := Fold(v, l); e != f || place != at || !sameView(got, want) {
			t.Fatalf("Fold(%v, %v) is %v %d %d and must be %v %d %d", v, l, got, place, e, want, at, f)
		}
	}
}

func TestDiff(t *testing.T) { // C3
	a, b, c, d := ints(1), ints(1, 0), ints(2), []api.Value{word("x")}
	x := []api.Count{count(3, a), count(1, b), count(2, d)}
	y := []api.Count{count(1, a), count(1, b), count(2, c), count(3, d)}
	for name, s := range map[string]struct {
		a, b []api.Count
		want []api.Change
	}{
		"the same":  {x, x, nil},
		"nothing":   {nil, nil, nil},
		"all comes": {nil, x, []api.Change{insert(a), insert(a), insert(a), insert(b), insert(d), insert(d)}},
		"all goes":  {x, nil, []api.Change{remove(a), remove(a), remove(a), remove(b), remove(d), remove(d)}},
		"there":     {x, y, []api.Change{remove(a), remove(a), insert(c), insert(c), insert(d)}},
		"back":      {y, x, []api.Change{remove(c), remove(c), remove(d), insert(a), insert(a)}},
		"great counts": {[]api.Count{count(api.MaxCount, a), count(api.MaxCount-1, c)}, []api.Count{count(api.MaxCount-1, a), count(api.MaxCount, c)},
			[]api.Change{remove(a), insert(c)}},
	} {
		if got, e := Diff(s.a, s.b); e != api.OK || !sameList(got, s.want) {
			t.Errorf("%s: %v %d and must be %v", name, got, e, s.want)
		}
	}
}

func TestDiffBounds(t *testing.T) { // C3, P1
	const m = api.MaxRows
	a, b := ints(1), ints(2)
	wrong, long := []api.Count{count(0, a)}, manyRows(m+1)
	for name, c := range map[string]struct {
		a, b []api.Count
		n    int
		want api.Errno
	}{
		"as many as may be":   {[]api.Count{count(m/2, a)}, []api.Count{count(m/2, b)}, m, api.OK},
		"of one row":          {nil, []api.Count{count(m, a)}, m, api.OK},
		"all rows go":         {manyRows(m), nil, m, api.OK},
		"one more":            {[]api.Count{count(m/2+1, a)}, []api.Count{count(m/2, b)}, 0, api.ErrMany},
		"one more comes":      {nil, []api.Count{count(m+1, a)}, 0, api.ErrMany},
		"one more goes":       {[]api.Count{count(m+1, a)}, nil, 0, api.ErrMany},
		"far more":            {[]api.Count{count(api.MaxCount, a)}, []api.Count{count(api.MaxCount, b)}, 0, api.ErrMany},
		"a is wrong":          {wrong, nil, 0, api.ErrForm},
		"b is wrong":          {nil, wrong, 0, api.ErrForm},
		"a ahead of b":        {wrong, long, 0, api.ErrForm},
		"a too long":          {long, wrong, 0, api.ErrMany},
		"b too long":          {nil, long, 0, api.ErrMany},
		"b wrong ahead of it": {[]api.Count{count(api.MaxCount, a)}, wrong, 0, api.ErrForm},
	} {
		if got, e := Diff(c.a, c.b); len(got) != c.n || e != c.want {
			t.Errorf("%s: %d changes, %d and must be %d, %d", name, len(got), e, c.n, c.want)
		}
	}
}

func TestNet(t *testing.T) { // C4
	a, b, c := ints(1), ints(2), []api.Value{word("x")}
	for name, s := range map[string]struct{ l, want []api.Change }{
		"nothing":        {nil, nil},
		"there and back": {[]api.Change{insert(a), before(a), after(b), remove(b)}, nil},
		"back and there": {[]api.Change{remove(a), insert(a)}, nil},
		"in order":       {[]api.Change{insert(c), insert(a), remove(b), insert(a), remove(nil), remove(b)}, []api.Change{remove(nil), remove(b), remove(b), insert(a), insert(a), insert(c)}},
		"a pair":         {[]api.Change{before(b), after(a), before(c), after(b)}, []api.Change{remove(c), insert(a)}},
		"so often":       {list(times(5, insert(b)), times(2, remove(b)), times(3, remove(a)), times(1, insert(a))), list(times(2, remove(a)), times(3, insert(b)))},
	} {
		if got, e := Net(s.l); e != api.OK || !sameList(got, s.want) {
			t.Errorf("%s: %v %d and must be %v", name, got, e, s.want)
		}
	}
}

func TestUndo(t *testing.T) { // C4
	a, b, c := ints(1), ints(2), ints(3)
	for name, s := range map[string]struct{ l, want []api.Change }{
		"nothing":         {nil, nil},
		"insert":          {[]api.Change{insert(a)}, []api.Change{remove(a)}},
		"delete":          {[]api.Change{remove(a)}, []api.Change{insert(a)}},
		"a pair":          {[]api.Change{before(a), after(b)}, []api.Change{before(b), after(a)}},
		"backwards":       {[]api.Change{insert(a), remove(b), before(a), after(c), insert(a)}, []api.Change{remove(a), before(c), after(a), insert(b), remove(a)}},
		"nothing is left": {[]api.Change{insert(a), remove(a)}, []api.Change{insert(a), remove(a)}},
	} {
		if got, e := Undo(s.l); e != api.OK || !sameList(got, s.want) {
			t.Errorf("%s: %v %d and must be %v", name, got, e, s.want)
		}
	}
}

func TestNetAndUndoErrors(t *testing.T) { // C4, P1
	a := ints(1)
	for _, l := range [][]api.Change{
		times(api.MaxRows+1, insert(a)), {insert(a), {Kind: 5, Row: a}}, {insert(wrongForm)}, {remove(wrongMany)},
		{before(a)}, {after(a)}, {before(a), insert(a)}, {before(a), after(a), after(a)},
	} {
		want := Form(l)
		net, e := Net(l)
		undo, f := Undo(l)
		if want == api.OK || e != want || f != want || len(net) != 0 || len(undo) != 0 {
			t.Errorf("%d changes: Net %d, Undo %d and must be %d", len(l), e, f, want)
		}
	}
	full := times(api.MaxRows, insert(a))
	net, e := Net(full)
	undo, f := Undo(full)
	if e != api.OK || f != api.OK || !sameList(net, full) || !sameList(undo, times(api.MaxRows, remove(a))) {
		t.Errorf("as many as may be: Net %d %d, Undo %d %d", len(net), e, len(undo), f)
	}
}

func TestDiffMakesBOfA(t *testing.T) { // C5
	d := draw(17)
	for range 500 {
		a, b := d.grown(t, 15), d.grown(t, 15)
		l, e := Diff(a, b)
		got, at, f := Fold(a, l)
		if e != api.OK || f != api.OK || at != 0 || !sameView(got, b) {
			t.Fatalf("Diff(%v, %v) is %v %d and makes %v %d", a, b, l, e, got, f)
		}
		if net, _ := Net(l); !sameList(net, l) {
			t.Fatalf("of %v there is left %v", l, net)
		}
	}
}

func TestNetAndUndoOfWhatCanBeDone(t *testing.T) { // C5
	d := draw(23)
	done := 0
	for range 2000 {
		v, l := d.grown(t, 20), d.list(6)
		made, _, e := Fold(v, l)
		if e != api.OK {
			continue
		}
		done++
		net, _ := Net(l)
		if got, at, e := Fold(v, net); e != api.OK || !sameView(got, made) {
			t.Fatalf("Net of %v is %v and makes of %v: %v %d %d, and must make %v", l, net, v, got, at, e, made)
		}
		undo, _ := Undo(l)
		if got, at, e := Fold(made, undo); e != api.OK || !sameView(got, v) {
			t.Fatalf("Undo of %v is %v and makes of %v: %v %d %d, and must make %v", l, undo, made, got, at, e, v)
		}
		if again, _ := Undo(undo); !sameList(again, l) {
			t.Fatalf("Undo of Undo of %v is %v", l, again)
		}
	}
	if done < 100 {
		t.Fatalf("only %d lists could be done", done)
	}
}

func TestNetAndUndoAtTheBounds(t *testing.T) { // C5
	full := manyRows(api.MaxRows)
	full[0].N = api.MaxCount
	l := []api.Change{remove(ints(1)), insert(ints(-1)), before(ints(0)), after(ints(2)), remove(ints(3)), insert(ints(3))}
	made, _, e := Fold(full, l)
	net, _ := Net(l)
	again, _, f := Fold(full, net)
	undo, _ := Undo(l)
	back, _, g := Fold(made, undo)
	if e != api.OK || f != api.OK || g != api.OK || !sameView(made, again) || !sameView(back, full) {
		t.Errorf("Fold %d, of Net %d, of Undo %d", e, f, g)
	}
}

// spare is a list that has room behind it, and what lies there.
func spare[T any](l []T, behind T) (short, whole []T) {
	whole = append(slices.Clone(l), behind, behind)
	return whole[:len(l)], whole
}

func deepView(v []api.Count) []api.Count {
	out := slices.Clone(v)
	for i := range out {
		out[i].Row = slices.Clone(out[i].Row)
	}
	return out
}

func deepList(l []api.Change) []api.Change {
	out := slices.Clone(l)
	for i := range out {
		out[i].Row = slices.Clone(out[i].Row)
	}
	return out
}

func TestWhatIsHandedInIsOnlyRead(t *testing.T) { // P2
	row, rowRoom := spare(ints(2), num(77))
	v, viewRoom := spare([]api.Count{count(1, row), count(2, ints(3))}, count(7, ints(7)))
	l, listRoom := spare([]api.Change{insert(row), before(ints(3)), after(row), insert(ints(5))}, insert(ints(7)))
	wasRow, wasView, wasList := slices.Clone(rowRoom), deepView(viewRoom), deepList(listRoom)
	Check(v)
	Form(l)
	Add(v, row, 3)
	Add(v, row, -1)
	Fold(v, l)
	Diff(v, nil)
	Diff(nil, v)
	Net(l)
	Undo(l)
	if !reflect.DeepEqual(rowRoom, wasRow) || !reflect.DeepEqual(viewRoom, wasView) || !reflect.DeepEqual(listRoom, wasList) {
		t.Errorf("what was handed in is not as it was: %v, %v, %v", rowRoom, viewRoom, listRoom)
	}
}

// spoil writes over a row, the room behind it too.
func spoil(row []api.Value) {
	whole := row[:cap(row)]
	for i := range whole {
		whole[i] = num(-99)
	}
}

// apart tells whether spoiling each row of one list leaves all others of it,
// and what was handed in (told by intact), as they were.
func apart(t *testing.T, name string, rows [][]api.Value, intact func() bool) {
	t.Helper()
	var was [][]api.Value
	for _, row := range rows {
		was = append(was, slices.Clone(row))
	}
	for i, row := range rows {
		spoil(row)
		for j := i + 1; j < len(rows); j++ {
			if !slices.Equal(rows[j], was[j]) {
				t.Errorf("%s: rows %d and %d share memory", name, i, j)
			}
		}
	}
	if !intact() {
		t.Errorf("%s: what was handed in changes with the answer", name)
	}
}

func viewRows(v []api.Count) (rows [][]api.Value) {
	for _, c := range v {
		rows = append(rows, c.Row)
	}
	return rows
}

func listRows(l []api.Change) (rows [][]api.Value) {
	for _, c := range l {
		rows = append(rows, c.Row)
	}
	return rows
}

func TestAnswersAreNewMemory(t *testing.T) { // P2
	row := ints(4, 4)
	v := []api.Count{count(3, ints(1, 1)), count(2, ints(2, 2))}
	l := []api.Change{insert(row), insert(row), before(v[0].Row), after(row)}
	wasRow, wasView, wasList := slices.Clone(row), deepView(v), deepList(l)
	intact := func() bool {
		return reflect.DeepEqual(row, wasRow) && reflect.DeepEqual(v, wasView) && reflect.DeepEqual(l, wasList)
	}
	added, _ := Add(v, row, 2)
	same, _ := Add(v, row, 0)
	folded, _, _ := Fold(v, l)
	unfolded, _, _ := Fold(v, nil)
	goes, _ := Diff(v, nil)
	comes, _ := Diff(nil, v)
	net, _ := Net(l)
	undo, _ := Undo(l)
	if len(added) != 3 || len(same) != 2 || len(folded) != 3 || len(unfolded) != 2 || len(goes) != 5 || len(comes) != 5 || len(net) != 4 || len(undo) != 4 {
		t.Fatal("the answers are not as long as they must be")
	}
	apart(t, "Add", viewRows(added), intact)
	apart(t, "Add of 0", viewRows(same), intact)
	apart(t, "Fold", viewRows(folded), intact)
	apart(t, "Fold of nothing", viewRows(unfolded), intact)
	apart(t, "Diff to nothing", listRows(goes), intact)
	apart(t, "Diff of nothing", listRows(comes), intact)
	apart(t, "Net", listRows(net), intact)
	apart(t, "Undo", listRows(undo), intact)
}

func TestAnswersHangOnWhatIsHandedIn(t *testing.T) { // P3
	d := draw(29)
	for range 50 {
		v, w, l := d.grown(t, 20), d.grown(t, 20), d.list(10)
		diff, _ := Diff(v, w)
		net, _ := Net(l)
		fold, at, e := Fold(v, l)
		for range 5 {
			diff2, _ := Diff(deepView(v), w)
			net2, _ := Net(deepList(l))
			fold2, at2, e2 := Fold(deepView(v), l)
			if !sameList(diff, diff2) || !sameList(net, net2) || !sameView(fold, fold2) || at != at2 || e != e2 {
				t.Fatalf("the same was asked of %v, %v and %v, and the answers are not the same", v, w, l)
			}
		}
	}
}
