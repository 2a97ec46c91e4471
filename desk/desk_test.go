package desk

import (
	"fmt"
	"math"
	"slices"
	"strings"
	"testing"

	"meetwater/api"
	"meetwater/plan"
	"meetwater/value"
)

func null() api.Value         { return api.Value{} }
func flag(n int) api.Value    { return api.Value{Kind: api.Bool, N: n} }
func num(n int) api.Value     { return api.Value{Kind: api.Int, N: n} }
func text(s string) api.Value { return api.Value{Kind: api.Text, S: s} }

func row(cells ...api.Value) []api.Value { return cells }

// ints is a row of Ints.
func ints(ns ...int) (row []api.Value) {
	for _, n := range ns {
		row = append(row, num(n))
	}
	return row
}

func left(time int, cells ...api.Value) api.Event {
	return api.Event{Kind: api.RowEvent, Side: api.Left, Time: time, Row: cells}
}

func right(time int, cells ...api.Value) api.Event {
	return api.Event{Kind: api.RowEvent, Side: api.Right, Time: time, Row: cells}
}

func mark(side, time int) api.Event { return api.Event{Kind: api.MarkEvent, Side: side, Time: time} }

// draw gives numbers that are the same each time.
type draw uint64

func (d *draw) n(n int) int {
	*d = *d*6364136223846793005 + 1442695040888963407
	return int(uint64(*d) >> 33 % uint64(n))
}

// one is one of these.
func one[T any](d *draw, of ...T) T { return of[d.n(len(of))] }

// text is bytes, most of them such as stand in texts that are shown.
func (d *draw) text(most int) string {
	b := make([]byte, d.n(most+1))
	for i := range b {
		if b[i] = byte(d.n(256)); d.n(2) == 0 {
			b[i] = one(d, []byte("\"\\ 0aA-\n~\x7f")...)
		}
	}
	return string(b)
}

func (d *draw) cell() api.Value {
	return one(d, null(), flag(0), flag(1), num(d.n(7)-3), num(math.MinInt+d.n(3)), num(math.MaxInt-d.n(3)), text(d.text(4)), text(d.text(api.MaxText)))
}

func (d *draw) row() (row []api.Value) {
	for range d.n(api.MaxCells + 1) {
		row = append(row, d.cell())
	}
	return row
}

func (d *draw) time() int {
	return one(d, d.n(9)-4, -api.MaxTime+d.n(3), api.MaxTime-d.n(3))
}

func (d *draw) event() api.Event {
	if d.n(3) == 0 {
		return mark(1+d.n(2), d.time())
	}
	return api.Event{Kind: api.RowEvent, Side: 1 + d.n(2), Time: d.time(), Row: d.row()}
}

// places is n of the numbers from 0 to below of, in some order.
func (d *draw) places(n, of int) (l []int) {
	for len(l) < n {
		if at := d.n(of); !slices.Contains(l, at) {
			l = append(l, at)
		}
	}
	return l
}

// plan is a right plan, of any shape.
func (d *draw) plan() api.Plan {
	p := api.Plan{Kind: 1 + d.n(3), Mode: 1 + d.n(2), Limit: 1 + d.n(api.MaxLimit)}
	if p.Kind != api.Temporal {
		p.Mode = 1 + d.n(4)
	}
	switch p.Kind {
	case api.Interval:
		p.Low, p.High = d.time(), d.time()
		p.Low, p.High = min(p.Low, p.High), max(p.Low, p.High)
	case api.Window:
		p.Size = one(d, 1, 1+d.n(20), api.MaxTime)
	}
	for range 1 + d.n(api.MaxCols) {
		p.Left = append(p.Left, 1+d.n(3))
	}
	p.LKeys = d.places(1+d.n(len(p.Left)), len(p.Left))
	p.Right = make([]int, max(len(p.LKeys), 1+d.n(api.MaxCols)))
	for i := range p.Right {
		p.Right[i] = 1 + d.n(3)
	}
	p.RKeys = d.places(len(p.LKeys), len(p.Right))
	for i, at := range p.RKeys {
		p.Right[at] = p.Left[p.LKeys[i]]
	}
	if d.n(2) == 0 {
		d.groups(&p)
	}
	return p
}

func (d *draw) groups(p *api.Plan) {
	columns := slices.Concat(p.Left, p.Right)
	p.Grouped = true
	for range 1 + d.n(api.MaxAggs) {
		a := api.Agg{Fn: one(d, api.CountOf, api.MinOf, api.MaxOf)}
		if a.Fn != api.CountOf {
			a.Col = d.n(len(columns))
			if columns[a.Col] == api.Int {
				a.Fn = one(d, api.SumOf, api.MinOf, api.MaxOf)
			}
		}
		p.Aggs = append(p.Aggs, a)
	}
	p.Group = d.places(d.n(min(len(columns), api.MaxCells-len(p.Aggs))+1), len(columns))
}

// turned is a text of which something is not as it was.
func (d *draw) turned(s string) string {
	at := d.n(len(s) + 1)
	to := min(len(s), at+d.n(3))
	more := one(d, "", " ", "  ", "0", "-", "1", "\"", "\\", "a", "A", "\n", "+", "\\41", "\\0a", "null", "mark ", d.text(3))
	return s[:at] + more + s[to:]
}

// shownAs is how rows and events must be shown, told in another way than the
// program does.
func shownAs(row []api.Value) string {
	var words []string
	for _, v := range row {
		switch v.Kind {
		case api.Null:
			words = append(words, "null")
		case api.Bool:
			words = append(words, fmt.Sprint(v.N == 1))
		case api.Int:
			words = append(words, fmt.Sprint(v.N))
		default:
			s := ""
			for _, c := range []byte(v.S) {
				if c < 32 || c > 126 || c == '"' || c == '\\' {
					s += fmt.Sprintf("\\%02x", c)
				} else {
					s += fmt.Sprintf("%c", c)
				}
			}
			words = append(words, "\""+s+"\"")
		}
	}
	return strings.Join(words, " ")
}

func eventShownAs(e api.Event) string {
	s := fmt.Sprint(map[int]string{api.Left: "left", api.Right: "right"}[e.Side], " ", e.Time)
	if e.Kind == api.MarkEvent {
		return "mark " + s
	}
	return strings.TrimSuffix(s+" "+shownAs(e.Row), " ")
}

func sameEvent(a, b api.Event) bool {
	return a.Kind == b.Kind && a.Side == b.Side && a.Time == b.Time && slices.Equal(a.Row, b.Row)
}

func samePlan(a, b api.Plan) bool {
	return a.Kind == b.Kind && a.Mode == b.Mode && a.Low == b.Low && a.High == b.High && a.Size == b.Size && a.Limit == b.Limit && a.Grouped == b.Grouped &&
		slices.Equal(a.Left, b.Left) && slices.Equal(a.Right, b.Right) && slices.Equal(a.LKeys, b.LKeys) && slices.Equal(a.RKeys, b.RKeys) &&
		slices.Equal(a.Group, b.Group) && slices.Equal(a.Aggs, b.Aggs)
}

func TestShowRow(t *testing.T) { // M1
	for want, r := range map[string][]api.Value{
		"":                             {},
		"null":                         row(null()),
		"true":                         row(flag(1)),
		"false":                        row(flag(0)),
		"0":                            row(num(0)),
		"7 -7":                         ints(7, -7),
		"9223372036854775807":          ints(math.MaxInt),
		"-9223372036854775808":         ints(math.MinInt),
		"10 -100":                      ints(10, -100),
		`""`:                           row(text("")),
		`"a b"`:                        row(text("a b")),
		`" " " "`:                      row(text(" "), text(" ")),
		`"null" "7"`:                   row(text("null"), text("7")),
		`"\22\5c"`:                     row(text("\"\\")),
		`"\00\1f ~\7f\80\ff"`:          row(text("\x00\x1f ~\x7f\x80\xff")),
		`"\c3\a9"`:                     row(text("é")),
		`"/'` + "`" + `!#[]"`:          row(text("/'`!#[]")),
		"1 2 3 4 5 6 7 8":              ints(1, 2, 3, 4, 5, 6, 7, 8),
		`null true -1 "a" false "\0a"`: row(null(), flag(1), num(-1), text("a"), flag(0), text("\n")),
	} {
		if s, e := ShowRow(r); e != api.OK || s != want {
			t.Errorf("%v: %s %d and must be %s", r, s, e, want)
		}
	}
	if s, e := ShowRow(nil); e != api.OK || s != "" {
		t.Errorf("nil: %q %d", s, e)
	}
}

func TestBytesOfTexts(t *testing.T) { // M1: each byte, how it is shown, and that nothing else is read as it
	for c := range 256 {
		r := row(text(string([]byte{byte(c)})))
		plain := `"` + r[0].S + `"`
		low, high := fmt.Sprintf(`"\%02x"`, c), fmt.Sprintf(`"\%02X"`, c)
		want, others := low, []string{plain}
		if c >= 32 && c <= 126 && c != '"' && c != '\\' {
			want, others = plain, []string{low}
		}
		if low != high {
			others = append(others, high)
		}
		if s, e := ShowRow(r); e != api.OK || s != want {
			t.Errorf("the byte %d: %s %d and must be %s", c, s, e, want)
		}
		if got, e := ReadRow(want); e != api.OK || !slices.Equal(got, r) {
			t.Errorf("%s: %v %d", want, got, e)
		}
		for _, s := range others {
			if got, e := ReadRow(s); e != api.ErrForm || len(got) > 0 {
				t.Errorf("%s: %v %d", s, got, e)
			}
		}
	}
}

func TestShowRowErrors(t *testing.T) { // M1, P1: those of its key, the first of them
	long := text(strings.Repeat("x", api.MaxText+1))
	for name, r := range map[string][]api.Value{
		"no kind":                     row(api.Value{Kind: 4}),
		"a kind below 0":              row(num(1), api.Value{Kind: -1}),
		"a Null with a number":        row(api.Value{N: 1}),
		"a Null with a text":          row(api.Value{S: "a"}),
		"a Bool of 2":                 row(flag(2)),
		"an Int with a text":          row(api.Value{Kind: api.Int, S: "a"}),
		"a Text with a number":        row(api.Value{Kind: api.Text, N: 1}),
		"a text too long":             row(long),
		"a kind, then too long":       row(api.Value{Kind: 9}, long),
		"too long, then a kind":       row(long, api.Value{Kind: 9}),
		"too many cells":              ints(1, 2, 3, 4, 5, 6, 7, 8, 9),
		"too many, and a kind":        append(ints(1, 2, 3, 4, 5, 6, 7, 8), api.Value{Kind: 9}),
		"far too many":                make([]api.Value, 1000),
		"all wrong, and a form":       row(flag(-1), api.Value{Kind: 9}, long),
		"a form behind what is right": row(num(1), text("a"), null(), api.Value{Kind: api.Bool, S: "x"}),
	} {
		_, want := value.Key(r)
		if s, e := ShowRow(r); e != want || e == api.OK || s != "" {
			t.Errorf("%s: %q %d and must be %d", name, s, e, want)
		}
	}
	if s, e := ShowRow(row(text(strings.Repeat("\x00", api.MaxText)))); e != api.OK || s != `"`+strings.Repeat(`\00`, api.MaxText)+`"` {
		t.Errorf("as long as may be: %s %d", s, e)
	}
}

func TestReadRowWrong(t *testing.T) { // M1: texts that no row is shown as
	sixtyFive := strings.Repeat("x", api.MaxText+1)
	for _, s := range []string{
		" ", "  ", "1 ", " 1", "1  2", "1\t2", "1\n2", "1\n", "\n", "\x00", "1,2",
		"01", "00", "-0", "-01", "+1", "-", "--1", "1-", "1.0", "1e3", "1_000", "0x10", "٣", "9223372036854775808", "-9223372036854775809", "99999999999999999999999999",
		"nul", "nulll", "Null", "NULL", "nil", "True", "TRUE", "t", "f", "false.", "truefalse", "null,", "bool", "a",
		`"`, `"""`, `"a`, `a"`, `"a"b`, `"a""b"`, `"a"1`, `1"a"`, `"a"  "b"`, `"a" `, `'a'`, "`a`", `""1`, `"a"null`, `null"a"`,
		`"\"`, `"\`, `"\0`, `"\0"`, `"\00`, `"\0 "`, `"\g0"`, `"\0g"`, `"\n"`, `"\x0a"`, `"\0A"`, `"\A0"`, `"\41"`, `"\20"`, `"\7e"`, `"\\"`, `"\"a"`, `"\-1"`, `"\+1"`,
		"\"\n\"", "\"\t\"", "\"\x7f\"", "\"é\"", "\"\xff\"", "\"\x00\"",
		"1 2 3 4 5 6 7 8 9", "1 2 3 4 5 6 7 8 ", "1 2 3 4 5 6 7 8 9 ",
		`"` + sixtyFive + `"`, `1 "` + sixtyFive + `"`, `"` + strings.Repeat(`\00`, api.MaxText+1) + `"`,
		strings.Repeat("1 ", 5000), strings.Repeat("1", 5000), `"` + strings.Repeat("a", 5000), strings.Repeat(" ", 5000), strings.Repeat(`"" `, 5000) + `""`,
	} {
		if r, e := ReadRow(s); e != api.ErrForm || len(r) > 0 {
			t.Errorf("%q: %v %d", s, r, e)
		}
	}
}

func TestRowsAreReadAsTheyWere(t *testing.T) { // M1, M5
	d := draw(61)
	for range 20000 {
		r := d.row()
		s, e := ShowRow(r)
		if e != api.OK || s != shownAs(r) {
			t.Fatalf("%v: %s %d and must be %s", r, s, e, shownAs(r))
		}
		if got, e := ReadRow(s); e != api.OK || !slices.Equal(got, r) {
			t.Fatalf("%s: %v %d and must be %v", s, got, e, r)
		}
		mustBeShownSo(t, d.turned(s))
		mustBeShownSo(t, d.text(12))
	}
}

// mustBeShownSo asks that a row is read of a text only if it is shown so.
func mustBeShownSo(t *testing.T, s string) {
	t.Helper()
	r, e := ReadRow(s)
	if e != api.OK && (e != api.ErrForm || len(r) > 0) {
		t.Fatalf("%q: %v %d", s, r, e)
	}
	if _, f := value.Key(r); e == api.OK && (f != api.OK || shownAs(r) != s) {
		t.Fatalf("%q is read as %v", s, r)
	}
}

// shortTexts tells all texts of at most so many of these pieces.
func shortTexts(most int, tell func(string), of ...string) {
	tell("")
	if most == 0 {
		return
	}
	for _, piece := range of {
		shortTexts(most-1, func(s string) { tell(piece + s) }, of...)
	}
}

func TestAllShortTexts(t *testing.T) { // M1, M5: and those that are shown are read
	rows := 0
	shortTexts(6, func(s string) {
		mustBeShownSo(t, s)
		if _, e := ReadRow(s); e == api.OK {
			rows++
		}
	}, "0", "1", "-", " ", `"`, `\`, "a", "null")
	if rows < 1000 {
		t.Errorf("only %d of them are rows", rows)
	}
}

func TestShowEvent(t *testing.T) { // M2
	for want, e := range map[string]api.Event{
		"left 5":                     left(5),
		"right -5":                   right(-5),
		"left 0 null":                left(0, null()),
		`right 7 7 "a b" true`:       right(7, num(7), text("a b"), flag(1)),
		"mark left 3":                mark(api.Left, 3),
		"mark right -3":              mark(api.Right, -3),
		"mark left 1099511627776":    mark(api.Left, api.MaxTime),
		"right -1099511627776 1":     right(-api.MaxTime, num(1)),
		"left 1 1 2 3 4 5 6 7 8":     left(1, ints(1, 2, 3, 4, 5, 6, 7, 8)...),
		`left 1 "mark left 1" "\0a"`: left(1, text("mark left 1"), text("\n")),
	} {
		s, f := ShowEvent(e)
		if f != api.OK || s != want {
			t.Errorf("%v: %s %d and must be %s", e, s, f, want)
		}
		if got, f := ReadEvent(s); f != api.OK || !sameEvent(got, e) {
			t.Errorf("%s: %v %d", s, got, f)
		}
	}
	for _, e := range []api.Event{{Kind: api.MarkEvent, Side: api.Left, Row: row()}, {Kind: api.RowEvent, Side: api.Left, Row: row()}} {
		if _, f := ShowEvent(e); f != api.OK {
			t.Errorf("a row without cells that is not nil: %d", f)
		}
	}
}

func TestShowEventErrors(t *testing.T) { // M2, P1: each error, and which is told first
	wrong, form := row(api.Value{Kind: 9}), row(flag(2))
	for name, c := range map[string]struct {
		e    api.Event
		want api.Errno
	}{
		"nothing":                           {api.Event{}, api.ErrKind},
		"no kind":                           {api.Event{Side: api.Left}, api.ErrKind},
		"the kind 3":                        {api.Event{Kind: 3, Side: api.Left}, api.ErrKind},
		"the kind -1":                       {api.Event{Kind: -1, Side: api.Left}, api.ErrKind},
		"no side":                           {api.Event{Kind: api.RowEvent}, api.ErrKind},
		"the side 3":                        {api.Event{Kind: api.MarkEvent, Side: 3}, api.ErrKind},
		"the side -1":                       {api.Event{Kind: api.MarkEvent, Side: -1}, api.ErrKind},
		"a kind, a time, a row":             {api.Event{Kind: 3, Side: api.Left, Time: math.MaxInt, Row: form}, api.ErrKind},
		"a side, a time, a mark with a row": {api.Event{Kind: api.MarkEvent, Side: 0, Time: math.MaxInt, Row: form}, api.ErrKind},
		"a time":                            {left(api.MaxTime + 1), api.ErrRange},
		"a time below":                      {left(api.NoMark), api.ErrRange},
		"a mark's time":                     {mark(api.Right, api.NoMark), api.ErrRange},
		"the least time":                    {mark(api.Right, math.MinInt), api.ErrRange},
		"a time, and a row":                 {right(api.MaxTime+1, wrong...), api.ErrRange},
		"a time, and a mark with a row":     {api.Event{Kind: api.MarkEvent, Side: 1, Time: api.MaxTime + 1, Row: ints(1)}, api.ErrRange},
		"a mark with a row":                 {api.Event{Kind: api.MarkEvent, Side: 1, Row: ints(1)}, api.ErrForm},
		"a mark with a row that is wrong":   {api.Event{Kind: api.MarkEvent, Side: 1, Row: wrong}, api.ErrForm},
		"a row's kind":                      {left(1, wrong...), api.ErrKind},
		"a row's form":                      {left(1, form...), api.ErrForm},
		"a row too long":                    {left(1, make([]api.Value, 9)...), api.ErrMany},
		"a text too long":                   {left(1, text(strings.Repeat("x", 65))), api.ErrMany},
	} {
		if s, f := ShowEvent(c.e); f != c.want || s != "" {
			t.Errorf("%s: %q %d and must be %d", name, s, f, c.want)
		}
	}
}

func TestReadEventWrong(t *testing.T) { // M2: texts that no event is shown as
	for _, s := range []string{
		"", " ", "left", "right", "mark", "left ", "mark left", "mark left ", "mark right", "up 5", "Left 5", "LEFT 5", "l 5", "1 5", "5", "view", "mark 5", "left left 5", "mark mark left 5", "marks left 5", "left mark 5", "full 5",
		" left 5", "left  5", "left 5 ", "left 5  1", "left 5 1 ", "left\t5", "left 5\n", "left 5\r", "mark  left 5", " mark left 5", "mark left  5", "mark left 5 ", "mark left 5 1", "mark left 5 null", `mark left 5 ""`, "markleft 5", "left5",
		"left 05", "left -0", "left +5", "left 5.0", "left x", "left x 1", "left null", `left "5"`, "left 1099511627777", "left -1099511627777", "mark left 1099511627777", "mark right -1099511627777", "left 9223372036854775807", "left 9223372036854775808 1", "left -9223372036854775808",
		"left 5 01", "left 5 nul", `left 5 "`, `left 5 "a`, `left 5 "a"b`, "left 5 1 2 3 4 5 6 7 8 9", "left 5 mark", "left 5 left 5", `left 5 "` + strings.Repeat("x", 65) + `"`,
		strings.Repeat("left ", 5000), "left 5" + strings.Repeat(" 1", 5000), "mark left " + strings.Repeat("1", 5000), strings.Repeat(" ", 5000),
	} {
		if e, f := ReadEvent(s); f != api.ErrForm || !sameEvent(e, api.Event{}) {
			t.Errorf("%q: %v %d", s, e, f)
		}
	}
}

func TestEventsAreReadAsTheyWere(t *testing.T) { // M2, M5
	d := draw(62)
	for range 20000 {
		e := d.event()
		s, f := ShowEvent(e)
		if f != api.OK || s != eventShownAs(e) {
			t.Fatalf("%v: %s %d and must be %s", e, s, f, eventShownAs(e))
		}
		if got, f := ReadEvent(s); f != api.OK || !sameEvent(got, e) {
			t.Fatalf("%s: %v %d and must be %v", s, got, f, e)
		}
		mustBeAnEvent(t, d.turned(s))
	}
	shortTexts(6, func(s string) { mustBeAnEvent(t, s) }, "left", "right", "mark", " ", "1", "0", "-", "null")
}

// mustBeAnEvent asks that an event is read of a text only if it is shown so.
func mustBeAnEvent(t *testing.T, s string) {
	t.Helper()
	e, f := ReadEvent(s)
	if f != api.OK && (f != api.ErrForm || !sameEvent(e, api.Event{})) {
		t.Fatalf("%q: %v %d", s, e, f)
	}
	if g := checkedEvent(e); f == api.OK && (!g || eventShownAs(e) != s) {
		t.Fatalf("%q is read as %v", s, e)
	}
}

func checkedEvent(e api.Event) bool {
	_, f := value.Key(e.Row)
	return f == api.OK && -api.MaxTime <= e.Time && e.Time <= api.MaxTime && (e.Kind == api.RowEvent || len(e.Row) == 0)
}

// example is the plan of example 11 of the document.
func example() api.Plan {
	return api.Plan{Kind: api.Interval, Mode: api.FullOuter, Low: -5, High: 5, Limit: 2, Left: []int{api.Int, api.Int}, Right: []int{api.Int, api.Int}, LKeys: []int{0}, RKeys: []int{0},
		Grouped: true, Group: []int{0}, Aggs: []api.Agg{{Fn: api.CountOf}, {Fn: api.SumOf, Col: 1}}}
}

func TestShowPlan(t *testing.T) { // M3: example 11 of the document, and all words
	all := []int{api.Bool, api.Int, api.Text}
	for want, p := range map[string]api.Plan{
		"interval -5 5 full limit 2 from int int and int int on 0 is 0 by 0 tell count sum 1": example(),
		"interval -1099511627776 1099511627776 inner limit 1 from bool and bool on 0 is 0":    {Kind: api.Interval, Mode: api.Inner, Low: -api.MaxTime, High: api.MaxTime, Limit: 1, Left: all[:1], Right: all[:1], LKeys: []int{0}, RKeys: []int{0}},
		"window 10 left limit 64 from bool int text and text int bool on 2 0 1 is 0 2 1":      {Kind: api.Window, Mode: api.LeftOuter, Size: 10, Limit: 64, Left: all, Right: []int{api.Text, api.Int, api.Bool}, LKeys: []int{2, 0, 1}, RKeys: []int{0, 2, 1}},
		"window 1099511627776 right limit 1 from text and int text on 0 is 1":                 {Kind: api.Window, Mode: api.RightOuter, Size: api.MaxTime, Limit: 1, Left: []int{api.Text}, Right: []int{api.Int, api.Text}, LKeys: []int{0}, RKeys: []int{1}},
		"temporal left limit 3 from int and int on 0 is 0":                                    {Kind: api.Temporal, Mode: api.LeftOuter, Limit: 3, Left: []int{api.Int}, Right: []int{api.Int}, LKeys: []int{0}, RKeys: []int{0}},
		"temporal inner limit 3 from int and int on 0 is 0 by tell count":                     {Kind: api.Temporal, Mode: api.Inner, Limit: 3, Left: []int{api.Int}, Right: []int{api.Int}, LKeys: []int{0}, RKeys: []int{0}, Grouped: true, Aggs: []api.Agg{{Fn: api.CountOf}}},
		"temporal inner limit 3 from int and int on 0 is 0 by 1 0 tell max 1 min 0 sum 1 max 1": {Kind: api.Temporal, Mode: api.Inner, Limit: 3, Left: []int{api.Int}, Right: []int{api.Int}, LKeys: []int{0}, RKeys: []int{0}, Grouped: true, Group: []int{1, 0},
			Aggs: []api.Agg{{Fn: api.MaxOf, Col: 1}, {Fn: api.MinOf}, {Fn: api.SumOf, Col: 1}, {Fn: api.MaxOf, Col: 1}}},
	} {
		s, e := ShowPlan(p)
		if e != api.OK || s != want {
			t.Errorf("%v: %s %d and must be %s", p, s, e, want)
		}
		if got, e := ReadPlan(want); e != api.OK || !samePlan(got, p) {
			t.Errorf("%s: %v %d and must be %v", want, got, e, p)
		}
	}
}

func TestShowPlanErrors(t *testing.T) { // M3, P1: Check's
	for name, spoil := range map[string]func(p *api.Plan){
		"nothing":             func(p *api.Plan) { *p = api.Plan{} },
		"a kind":              func(p *api.Plan) { p.Kind = 4; p.Limit = 0 },
		"a kind below 0":      func(p *api.Plan) { p.Kind = -1 },
		"a mode":              func(p *api.Plan) { p.Mode = 5 },
		"a figure":            func(p *api.Plan) { p.Aggs[1].Fn = 99 },
		"Temporal and full":   func(p *api.Plan) { p.Kind, p.Low, p.High = api.Temporal, 0, 0 },
		"a size of Interval":  func(p *api.Plan) { p.Size = 1 },
		"a limit":             func(p *api.Plan) { p.Limit = api.MaxLimit + 1 },
		"no columns":          func(p *api.Plan) { p.Left = nil },
		"figures, no groups":  func(p *api.Plan) { p.Grouped = false },
		"a type":              func(p *api.Plan) { p.Left[1] = 4 },
		"a type of 0":         func(p *api.Plan) { p.Right[1] = 0 },
		"low above high":      func(p *api.Plan) { p.Low = 6 },
		"a key":               func(p *api.Plan) { p.LKeys[0] = 2 },
		"a column of a count": func(p *api.Plan) { p.Aggs[0].Col = 1 },
	} {
		p := example()
		spoil(&p)
		want := plan.Check(p)
		if s, e := ShowPlan(p); e != want || e == api.OK || s != "" {
			t.Errorf("%s: %q %d and must be %d", name, s, e, want)
		}
	}
}

func TestReadPlanWrong(t *testing.T) { // M3: texts that no plan is shown as
	for _, s := range []string{
		"", " ", "interval", "temporal", "view",
		"interval -5 5 full limit 2 from int and int on 0 is 0 ", " interval -5 5 full limit 2 from int and int on 0 is 0", "interval -5 5  full limit 2 from int and int on 0 is 0", "interval -5 5 full limit 2 from int and int on 0 is 0\n",
		"interval -5 5 full limit 2 from int and int on 0 is 0 by", "interval -5 5 full limit 2 from int and int on 0 is 0 by 0", "interval -5 5 full limit 2 from int and int on 0 is 0 by 0 tell", "interval -5 5 full limit 2 from int and int on 0 is 0 by tell ",
		"interval -5 5 full limit 2 from int and int on 0 is 0 tell count", "interval -5 5 full limit 2 from int and int on 0 is 0 by 0 tell sum", "interval -5 5 full limit 2 from int and int on 0 is 0 by 0 tell count 0", "interval -5 5 full limit 2 from int and int on 0 is 0 by 0 tell count ", "interval -5 5 full limit 2 from int and int on 0 is 0 by 0 tell sum 1 by",
		"interval -5 5 full limit 2 from int and int on 0 is 0 by 0 tell count count count count count", "interval -5 5 full limit 2 from int and int on 0 is 0 by 0 0 tell count", "interval -5 5 full limit 2 from int and int on 0 is 0 by 2 tell count", "interval -5 5 full limit 2 from int and text on 0 is 0",
		"interval 5 -5 full limit 2 from int and int on 0 is 0", "interval 5 full limit 2 from int and int on 0 is 0", "interval -05 5 full limit 2 from int and int on 0 is 0", "interval -0 5 full limit 2 from int and int on 0 is 0", "interval -5 +5 full limit 2 from int and int on 0 is 0", "interval -1099511627777 5 full limit 2 from int and int on 0 is 0", "interval -9223372036854775809 5 full limit 2 from int and int on 0 is 0",
		"window 0 full limit 2 from int and int on 0 is 0", "window -1 full limit 2 from int and int on 0 is 0", "window full limit 2 from int and int on 0 is 0", "window 1 2 full limit 2 from int and int on 0 is 0", "window 1099511627777 full limit 2 from int and int on 0 is 0",
		"temporal right limit 2 from int and int on 0 is 0", "temporal full limit 2 from int and int on 0 is 0", "temporal 1 inner limit 2 from int and int on 0 is 0", "temporal outer limit 2 from int and int on 0 is 0",
		"temporal inner limit 0 from int and int on 0 is 0", "temporal inner limit 65 from int and int on 0 is 0", "temporal inner limit 02 from int and int on 0 is 0", "temporal inner limit from int and int on 0 is 0",
		"temporal inner limit 2 from and int on 0 is 0", "temporal inner limit 2 from int and on 0 is 0", "temporal inner limit 2 from null and int on 0 is 0", "temporal inner limit 2 from 2 and 2 on 0 is 0", "temporal inner limit 2 from int int int int int and int on 0 is 0", "temporal inner limit 2 from int and int int int int int int int int int on 0 is 0",
		"temporal inner limit 2 from int and int on is", "temporal inner limit 2 from int and int on 0 is", "temporal inner limit 2 from int and int on 1 is 0", "temporal inner limit 2 from int and int on -1 is 0", "temporal inner limit 2 from int int and int on 0 1 is 0", "temporal inner limit 2 from int and int on 0 0 is 0 0", "temporal inner limit 2 from int and int is 0 on 0", "temporal inner limit 2 from int and int on 0 is 00",
		"Temporal inner limit 2 from int and int on 0 is 0", "temporal inner Limit 2 from int and int on 0 is 0",
		strings.Repeat("temporal ", 5000), "temporal inner limit 2 from" + strings.Repeat(" int", 5000), "temporal inner limit 2 from int and int on" + strings.Repeat(" 0", 5000) + " is 0", "temporal inner limit 2 from int and int on 0 is 0 by tell" + strings.Repeat(" count", 5000), strings.Repeat(" ", 5000), strings.Repeat("1", 5000),
	} {
		if p, e := ReadPlan(s); e != api.ErrForm || !samePlan(p, api.Plan{}) {
			t.Errorf("%q: %v %d", s, p, e)
		}
	}
}

// planShownAs is how a plan must be shown, told in another way than the program
// does.
func planShownAs(p api.Plan) string {
	types := func(l []int) (s string) {
		for _, column := range l {
			s += " " + []string{"", "bool", "int", "text"}[column]
		}
		return s
	}
	numbers := func(l []int) (s string) {
		for _, n := range l {
			s += fmt.Sprint(" ", n)
		}
		return s
	}
	s := []string{"", fmt.Sprint("interval ", p.Low, " ", p.High), fmt.Sprint("window ", p.Size), "temporal"}[p.Kind]
	s += " " + []string{"", "inner", "left", "right", "full"}[p.Mode] + fmt.Sprint(" limit ", p.Limit)
	s += " from" + types(p.Left) + " and" + types(p.Right) + " on" + numbers(p.LKeys) + " is" + numbers(p.RKeys)
	if !p.Grouped {
		return s
	}
	s += " by" + numbers(p.Group) + " tell"
	for _, a := range p.Aggs {
		if a.Fn == api.CountOf {
			s += " count"
		} else {
			s += " " + []string{"", "", "sum", "min", "max"}[a.Fn] + fmt.Sprint(" ", a.Col)
		}
	}
	return s
}

// mustBeAPlan asks that a plan is read of a text only if it is shown so.
func mustBeAPlan(t *testing.T, s string) {
	t.Helper()
	p, e := ReadPlan(s)
	if e != api.OK && (e != api.ErrForm || !samePlan(p, api.Plan{})) {
		t.Fatalf("%q: %v %d", s, p, e)
	}
	if e == api.OK && (plan.Check(p) != api.OK || planShownAs(p) != s) {
		t.Fatalf("%q is read as %v", s, p)
	}
}

func TestPlansAreReadAsTheyWere(t *testing.T) { // M3, M5: and with words left out, told twice, or put in
	d := draw(63)
	words := []string{"", "interval", "window", "temporal", "inner", "left", "right", "full", "limit", "from", "and", "on", "is", "by", "tell", "count", "sum", "min", "max", "bool", "int", "text", "0", "1", "2", "3", "-1", "64", "65", "01", "null"}
	for range 1500 {
		p := d.plan()
		s, e := ShowPlan(p)
		if e != api.OK || s != planShownAs(p) {
			t.Fatalf("%v: %s %d and must be %s", p, s, e, planShownAs(p))
		}
		if got, e := ReadPlan(s); e != api.OK || !samePlan(got, p) {
			t.Fatalf("%s: %v %d and must be %v", s, got, e, p)
		}
		said := strings.Split(s, " ")
		for at := range said {
			word := one(&d, words...)
			mustBeAPlan(t, strings.Join(slices.Concat(said[:at], said[at+1:]), " "))
			mustBeAPlan(t, strings.Join(slices.Concat(said[:at+1], said[at:]), " "))
			mustBeAPlan(t, strings.Join(slices.Concat(said[:at], []string{word}, said[at:]), " "))
			mustBeAPlan(t, strings.Join(slices.Concat(said[:at], []string{word}, said[at+1:]), " "))
			mustBeAPlan(t, strings.Join(said[:at], " "))
			mustBeAPlan(t, d.turned(s))
		}
	}
}

func TestAnswersAreNewMemory(t *testing.T) { // P2, P3: whoever writes over an answer changes nothing that a later one tells
	room := append(ints(7, 8), num(99))
	event := left(1, room[:2]...)
	p := example()
	p.Group = append(p.Group, 77)[:1]
	for range 2 {
		if s, e := ShowRow(room[:2]); e != api.OK || s != "7 8" || room[2] != num(99) {
			t.Fatalf("%s %d", s, e)
		}
		if s, e := ShowEvent(event); e != api.OK || s != "left 1 7 8" || room[2] != num(99) {
			t.Fatalf("%s %d", s, e)
		}
		if s, e := ShowPlan(p); e != api.OK || s != planShownAs(example()) || p.Group[:2][1] != 77 {
			t.Fatalf("%s %d", s, e)
		}
		r, _ := ReadRow("7 null true")
		if !slices.Equal(r, row(num(7), null(), flag(1))) {
			t.Fatalf("%v", r)
		}
		e, _ := ReadEvent("left 1 7 null")
		if !slices.Equal(e.Row, row(num(7), null())) {
			t.Fatalf("%v", e)
		}
		for _, l := range [][]api.Value{r, e.Row} {
			l = l[:cap(l)]
			for i := range l {
				l[i] = num(-1)
			}
		}
	}
}

func TestListsOfAPlan(t *testing.T) { // P2: no two of them share memory
	s := planShownAs(example())
	for i := range 5 {
		p, e := ReadPlan(s)
		if e != api.OK || !samePlan(p, example()) {
			t.Fatalf("%v %d", p, e)
		}
		lists := []*[]int{&p.Left, &p.Right, &p.LKeys, &p.RKeys, &p.Group}
		l := (*lists[i])[:cap(*lists[i])]
		for at := range l {
			l[at] = -9
		}
		want := example()
		*[]*[]int{&want.Left, &want.Right, &want.LKeys, &want.RKeys, &want.Group}[i] = *lists[i]
		if !samePlan(p, want) {
			t.Errorf("with list %d others change: %v", i, p)
		}
	}
}
