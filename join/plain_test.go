package join

import (
	"cmp"
	"slices"
	"testing"

	"meetwater/api"
	"meetwater/value"
)

func null() api.Value         { return api.Value{} }
func flag(n int) api.Value    { return api.Value{Kind: api.Bool, N: n} }
func num(n int) api.Value     { return api.Value{Kind: api.Int, N: n} }
func word(s string) api.Value { return api.Value{Kind: api.Text, S: s} }

// ints is a row of Ints.
func ints(ns ...int) (row []api.Value) {
	for _, n := range ns {
		row = append(row, num(n))
	}
	return row
}

// planOf is a plan of two Ints on each side, met by the first.
func planOf(kind, mode int) api.Plan {
	two := []int{api.Int, api.Int}
	p := api.Plan{Kind: kind, Mode: mode, Limit: 1, Left: two, Right: two, LKeys: []int{0}, RKeys: []int{0}}
	switch kind {
	case api.Interval:
		p.Low, p.High = -5, 5
	case api.Window:
		p.Size = 10
	}
	return p
}

// allPlans is a plan of each kind and mode.
func allPlans() (l []api.Plan) {
	for _, kind := range []int{api.Interval, api.Window, api.Temporal} {
		for mode := api.Inner; mode <= api.FullOuter; mode++ {
			if kind != api.Temporal || mode <= api.LeftOuter {
				l = append(l, planOf(kind, mode))
			}
		}
	}
	return l
}

// draw gives numbers that are the same each time.
type draw uint64

func (d *draw) n(n int) int {
	*d = *d*6364136223846793005 + 1442695040888963407
	return int(uint64(*d) >> 33 % uint64(n))
}

// shape lets a plan have another limit, other columns, a span or a size of its own.
func (d *draw) shape(p api.Plan) api.Plan {
	p.Limit = 1 + d.n(4)
	if d.n(3) == 0 {
		p.Left, p.Right = []int{api.Text, api.Int, api.Bool}, []int{api.Bool, api.Text}
		p.LKeys, p.RKeys = []int{2, 0}, []int{0, 1}
	}
	switch p.Kind {
	case api.Interval:
		p.Low = d.n(16) - 9
		p.High = p.Low + d.n(9)
	case api.Window:
		p.Size = 1 + d.n(12)
	}
	return p
}

// cell is one of few, so that the same ones come again.
func (d *draw) cell(kind int) api.Value {
	switch {
	case d.n(9) == 0:
		return null()
	case kind == api.Bool:
		return flag(d.n(2))
	case kind == api.Int:
		return num(d.n(2))
	}
	return word([]string{"", "a"}[d.n(2)])
}

// script is events whose times go on slowly; a few of them are wrong, or late.
func (d *draw) script(p api.Plan, n int) (l []api.Event) {
	now := -10
	for range n {
		e := api.Event{Kind: api.RowEvent, Side: 1 + d.n(2), Time: now + d.n(11) - 5}
		columns := p.Left
		if e.Side == api.Right {
			columns = p.Right
		}
		for _, kind := range columns {
			e.Row = append(e.Row, d.cell(kind))
		}
		switch d.n(24) {
		case 0, 1, 2, 3:
			e.Kind, e.Row = api.MarkEvent, nil
			e.Time -= 3
		case 4:
			e.Row = e.Row[1:]
		case 5:
			e.Kind = api.MarkEvent
		}
		l = append(l, e)
		now += d.n(2)
	}
	return l
}

// waiter is a row that the plain join keeps.
type waiter struct {
	side, time, seq int
	row, key        []api.Value
	met             bool
}

// plain is a join as the words of the document have it: rows in one list,
// gone through from its beginning to its end each time.
type plain struct {
	p     api.Plan
	rows  []waiter
	marks [3]int
	seq   int
}

func newPlain(p api.Plan) *plain {
	return &plain{p: p, marks: [3]int{0, api.NoMark, api.NoMark}}
}

func (m *plain) keyOf(side int, row []api.Value) ([]api.Value, bool) {
	places := m.p.LKeys
	if side == api.Right {
		places = m.p.RKeys
	}
	var key []api.Value
	for _, at := range places {
		key = append(key, row[at])
	}
	return key, !slices.Contains(key, null())
}

// windowOf is which window of a size a time is in, counted one by one.
func windowOf(time, size int) (n int) {
	for ; time >= size; time -= size {
		n++
	}
	for ; time < 0; time += size {
		n--
	}
	return n
}

// near tells whether rows of these times meet, if their keys are the same.
func near(p api.Plan, left, right int) bool {
	if p.Kind == api.Window {
		return windowOf(left, p.Size) == windowOf(right, p.Size)
	}
	return right >= left+p.Low && right <= left+p.High
}

// of is the rows of a side and a key that are so, by rising places.
func (m *plain) of(side int, key []api.Value, is func(w *waiter) bool) (l []*waiter) {
	for i := range m.rows {
		w := &m.rows[i]
		if w.side == side && slices.Equal(w.key, key) && is(w) {
			l = append(l, w)
		}
	}
	slices.SortFunc(l, func(a, b *waiter) int { return cmp.Or(cmp.Compare(a.time, b.time), cmp.Compare(a.seq, b.seq)) })
	return l
}

// both is a row of a side with one of the other; nil stands for Nulls.
func (m *plain) both(side int, row, other []api.Value) []api.Value {
	left, right := row, other
	if side == api.Right {
		left, right = other, row
	}
	if left == nil {
		left = make([]api.Value, len(m.p.Left))
	}
	if right == nil {
		right = make([]api.Value, len(m.p.Right))
	}
	return slices.Concat(left, right)
}

// keeps tells whether rows of a side that meet none stand in the view.
func (m *plain) keeps(side int) bool {
	return m.p.Mode == api.FullOuter || m.p.Mode == api.LeftOuter && side == api.Left || m.p.Mode == api.RightOuter && side == api.Right
}

// gone tells whether rows of a side and a time meet nobody who is still to
// come: all times behind the other side's mark that could matter are tried.
func (m *plain) gone(side, time int) bool {
	mark := m.marks[3-side]
	if mark == api.NoMark || m.p.Kind == api.Temporal && side == api.Right {
		return false
	}
	if m.p.Kind == api.Temporal {
		return time <= mark
	}
	for other := max(mark+1, time-60); other <= min(time+60, api.MaxTime); other++ {
		if side == api.Left && near(m.p, time, other) || side == api.Right && near(m.p, other, time) {
			return false
		}
	}
	return true
}

func insert(row []api.Value) []api.Change { return []api.Change{{Kind: api.Insert, Row: row}} }

func turn(before, after []api.Value) []api.Change {
	return []api.Change{{Kind: api.Before, Row: before}, {Kind: api.After, Row: after}}
}

// row is what comes of a row that comes.
func (m *plain) row(e api.Event) (told []api.Change) {
	key, has := m.keyOf(e.Side, e.Row)
	met := false
	switch {
	case m.p.Kind != api.Temporal:
		told, met = m.pair(e, key, has)
	case e.Side == api.Left:
		told, met = m.left(e, key, has)
	case has:
		told = m.right(e, key)
	}
	if has && !m.gone(e.Side, e.Time) {
		m.rows = append(m.rows, waiter{e.Side, e.Time, m.seq, e.Row, key, met})
	}
	m.seq++
	return told
}

// pair is G3.
func (m *plain) pair(e api.Event, key []api.Value, has bool) (told []api.Change, met bool) {
	other := 3 - e.Side
	partners := m.of(other, key, func(w *waiter) bool {
		if e.Side == api.Left {
			return has && near(m.p, e.Time, w.time)
		}
		return has && near(m.p, w.time, e.Time)
	})
	for _, w := range partners {
		if m.keeps(other) && !w.met {
			told = append(told, turn(m.both(other, w.row, nil), m.both(e.Side, e.Row, w.row))...)
		} else {
			told = append(told, insert(m.both(e.Side, e.Row, w.row))...)
		}
		w.met = true
	}
	if len(partners) == 0 && m.keeps(e.Side) {
		told = insert(m.both(e.Side, e.Row, nil))
	}
	return told, len(partners) > 0
}

// version is the right row that a left one of that key and time has.
func (m *plain) version(key []api.Value, time int) *waiter {
	var last *waiter
	for _, w := range m.of(api.Right, key, func(w *waiter) bool { return w.time <= time }) {
		last = w
	}
	return last
}

// left is G4 of a left row.
func (m *plain) left(e api.Event, key []api.Value, has bool) ([]api.Change, bool) {
	if has {
		if v := m.version(key, e.Time); v != nil {
			return insert(m.both(api.Left, e.Row, v.row)), true
		}
	}
	if m.keeps(api.Left) {
		return insert(m.both(api.Left, e.Row, nil)), false
	}
	return nil, false
}

// right is G4 of a right row with a key.
func (m *plain) right(e api.Event, key []api.Value) (told []api.Change) {
	for _, w := range m.of(api.Left, key, func(w *waiter) bool { return w.time >= e.Time }) {
		v := m.version(key, w.time)
		after := m.both(api.Left, w.row, e.Row)
		if v != nil && v.time > e.Time {
			continue
		}
		switch {
		case v != nil:
			told = append(told, turn(m.both(api.Left, w.row, v.row), after)...)
		case m.keeps(api.Left):
			told = append(told, turn(m.both(api.Left, w.row, nil), after)...)
		default:
			told = append(told, insert(after)...)
		}
		w.met = true
	}
	return told
}

// mark is G6.
func (m *plain) mark(e api.Event) {
	m.marks[e.Side] = e.Time
	lesser := min(m.marks[api.Left], m.marks[api.Right])
	m.rows = slices.DeleteFunc(m.rows, func(w waiter) bool { return m.gone(w.side, w.time) })
	if m.p.Kind != api.Temporal || lesser == api.NoMark {
		return
	}
	m.rows = slices.DeleteFunc(slices.Clone(m.rows), func(w waiter) bool {
		return w.side == api.Right && w.time <= lesser && m.version(w.key, lesser).seq != w.seq
	})
}

// step is what comes of an event, or which error it has.
func (m *plain) step(e api.Event) ([]api.Change, api.Errno) {
	columns := m.p.Left
	if e.Side == api.Right {
		columns = m.p.Right
	}
	switch {
	case e.Kind == api.MarkEvent && len(e.Row) > 0:
		return nil, api.ErrForm
	case e.Kind == api.MarkEvent && e.Time < m.marks[e.Side]:
		return nil, api.ErrBack
	case e.Kind == api.MarkEvent:
		m.mark(e)
		return nil, api.OK
	case len(e.Row) != len(columns):
		return nil, api.ErrMany
	case e.Time <= m.marks[e.Side]:
		return nil, api.ErrLate
	}
	return m.row(e), api.OK
}

// entries is what the plain join keeps of a side, by rising places.
func (m *plain) entries(side int) (l []api.Entry) {
	for _, w := range m.rows {
		if w.side == side {
			key, _ := value.Key(w.key)
			l = append(l, api.Entry{Key: key, Time: w.time, Seq: w.seq, Row: w.row, Met: w.met})
		}
	}
	slices.SortFunc(l, func(a, b api.Entry) int {
		return cmp.Or(cmp.Compare(a.Key, b.Key), cmp.Compare(a.Time, b.Time), cmp.Compare(a.Seq, b.Seq))
	})
	return l
}

func sameEntry(a, b api.Entry) bool {
	return a.Key == b.Key && a.Time == b.Time && a.Seq == b.Seq && a.Met == b.Met && slices.Equal(a.Row, b.Row)
}

func sameEntries(a, b []api.Entry) bool { return slices.EqualFunc(a, b, sameEntry) }

func sameBuffer(a, b api.Buffer) bool {
	return a.Limit == b.Limit && sameEntries(a.Mem, b.Mem) && slices.EqualFunc(a.Runs, b.Runs, sameEntries)
}

func sameJoin(a, b api.Join) bool {
	return sameBuffer(a.Left, b.Left) && sameBuffer(a.Right, b.Right) && a.LMark == b.LMark && a.RMark == b.RMark && a.Seq == b.Seq
}

func sameChanges(a, b []api.Change) bool {
	return slices.EqualFunc(a, b, func(x, y api.Change) bool { return x.Kind == y.Kind && slices.Equal(x.Row, y.Row) })
}

// isNone tells whether a join is the zero value that stands beside an error.
func isNone(s api.Join) bool { return sameJoin(s, api.Join{}) }

func deepEntries(l []api.Entry) []api.Entry {
	out := slices.Clone(l)
	for i := range out {
		out[i].Row = slices.Clone(out[i].Row)
	}
	return out
}

func deepBuffer(b api.Buffer) api.Buffer {
	b.Mem, b.Runs = deepEntries(b.Mem), slices.Clone(b.Runs)
	for i := range b.Runs {
		b.Runs[i] = deepEntries(b.Runs[i])
	}
	return b
}

func deep(s api.Join) api.Join {
	s.Left, s.Right = deepBuffer(s.Left), deepBuffer(s.Right)
	return s
}

func mustStart(t *testing.T, p api.Plan) api.Join {
	t.Helper()
	s, e := Start(p)
	if e != api.OK {
		t.Fatalf("Start: %d", e)
	}
	return s
}
