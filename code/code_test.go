package code

import (
	"encoding/binary"
	"fmt"
	"hash/crc32"
	"math"
	"slices"
	"strings"
	"testing"

	"meetwater/api"
	"meetwater/engine"
	"meetwater/plan"
	"meetwater/value"
)

func null() api.Value         { return api.Value{} }
func flag(n int) api.Value    { return api.Value{Kind: api.Bool, N: n} }
func num(n int) api.Value     { return api.Value{Kind: api.Int, N: n} }
func text(s string) api.Value { return api.Value{Kind: api.Text, S: s} }

func row(cells ...api.Value) []api.Value { return cells }

// shown tells two things apart, but not a list without elements from nil:
// numbers and texts are shown as hexadecimal digits, element by element.
func shown(x any) string { return fmt.Sprintf("%x", x) }

// draw gives numbers that are the same each time.
type draw uint64

func (d *draw) n(n int) int {
	*d = *d*6364136223846793005 + 1442695040888963407
	return int(uint64(*d) >> 33 % uint64(n))
}

func (d *draw) text(size int) string {
	b := make([]byte, size)
	for i := range b {
		b[i] = byte(d.n(256))
	}
	return string(b)
}

// plans is a plan of each kind, and grouped ones, with columns of all types.
func plans() []api.Plan {
	all := []int{api.Int, api.Text, api.Bool}
	p := api.Plan{Kind: api.Interval, Mode: api.FullOuter, Low: -5, High: 5, Limit: 2, Left: all, Right: all, LKeys: []int{0}, RKeys: []int{0}}
	w := p
	w.Kind, w.Mode, w.Low, w.High, w.Size, w.LKeys, w.RKeys = api.Window, api.LeftOuter, 0, 0, 10, []int{1, 2}, []int{1, 2}
	v := p
	v.Kind, v.Mode, v.Low, v.High, v.Limit = api.Temporal, api.LeftOuter, 0, 0, 1
	g := p
	g.Grouped, g.Group = true, []int{1, 2}
	g.Aggs = []api.Agg{{Fn: api.CountOf}, {Fn: api.SumOf, Col: 3}, {Fn: api.MinOf, Col: 4}, {Fn: api.MaxOf, Col: 5}}
	one := w
	one.Grouped, one.Aggs = true, []api.Agg{{Fn: api.MaxOf, Col: 0}}
	return []api.Plan{p, w, v, g, one}
}

// script is events for these plans; marks go on, and a few cells are Null.
func (d *draw) script(n int) (l []api.Event) {
	now := -8
	for range n {
		v := api.Event{Kind: api.RowEvent, Side: 1 + d.n(2), Time: now + d.n(9) - 4}
		v.Row = row(num(d.n(3)-1), text([]string{"", "a", "\x00", "\xffb"}[d.n(4)]), flag(d.n(2)))
		switch d.n(10) {
		case 0:
			v.Row[d.n(3)] = null()
		case 1:
			v.Kind, v.Row, v.Time = api.MarkEvent, nil, now-5
		}
		l = append(l, v)
		now += d.n(2)
	}
	return l
}

// engines is engines of a plan: one that starts, and some on their way.
func engines(t *testing.T, p api.Plan) []api.Engine {
	t.Helper()
	d := draw(41)
	var l []api.Engine
	for _, n := range []int{0, 1, 5, 14} {
		x, _, _, e := engine.Play(p, d.script(n))
		if e != api.OK {
			t.Fatalf("Play: %d", e)
		}
		l = append(l, x)
	}
	return l
}

// What follows is the bytes of an engine by the chapter's words, whether the
// engine is right or not.

func number(n int) string { return string(binary.BigEndian.AppendUint64(nil, uint64(n))) }

func counted(s string) string { return number(len(s)) + s }

func keyed(cells []api.Value) string {
	key, _ := value.Key(cells)
	return counted(key)
}

func listed[T any](l []T, one func(T) string) string {
	var s strings.Builder
	s.WriteString(number(len(l)))
	for _, x := range l {
		s.WriteString(one(x))
	}
	return s.String()
}

func entryBytes(e api.Entry) string {
	met := 0
	if e.Met {
		met = 1
	}
	return counted(e.Key) + number(e.Time) + number(e.Seq) + keyed(e.Row) + number(met)
}

func bufferBytes(b api.Buffer) string {
	run := func(l []api.Entry) string { return listed(l, entryBytes) }
	return run(b.Mem) + listed(b.Runs, run)
}

func tallyBytes(y api.Tally) string { return keyed(row(y.Value)) + number(y.N) }

func groupBytes(g api.Group) string {
	return keyed(g.Row) + number(g.N) + listed(g.Bags, func(bag []api.Tally) string { return listed(bag, tallyBytes) })
}

func engineBytes(e api.Engine) string {
	j := e.Join
	return bufferBytes(j.Left) + bufferBytes(j.Right) + number(j.LMark) + number(j.RMark) + number(j.Seq) +
		listed(e.Groups, groupBytes) + listed(e.View, func(c api.Count) string { return keyed(c.Row) + number(c.N) })
}

// sized is an engine of n bytes: 72, and its view's rows.
func sized(n int) (api.Plan, api.Engine) {
	four := []int{api.Text, api.Text, api.Text, api.Text}
	p := api.Plan{Kind: api.Interval, Mode: api.Inner, Limit: 1, Left: four, Right: four, LKeys: []int{0}, RKeys: []int{0}}
	e, _ := engine.Start(p)
	for rest := n - 72; rest > 0; {
		size := rest
		if size > 450 {
			size = min(450, rest-45)
		}
		cells := row(text(fmt.Sprintf("%05d", len(e.View))))
		for more := size - 45; len(cells) < 8; more -= len(cells[len(cells)-1].S) {
			cells = append(cells, text(strings.Repeat("x", min(more, api.MaxText))))
		}
		e.View = append(e.View, api.Count{Row: cells, N: 1})
		rest -= size
	}
	return p, e
}

func TestSum(t *testing.T) { // J1
	for b, want := range map[string]uint32{"": 0, "123456789": 0xcbf43926, "abc": 0x352441c2, "\x00": 0xd202ef8d, "\xff\xff\xff\xff": 0xffffffff} {
		if s := Sum(b); s != want {
			t.Errorf("Sum of %q is %x", b, s)
		}
	}
	d := draw(42)
	for size := range 300 {
		if b := d.text(size); Sum(b) != crc32.ChecksumIEEE([]byte(b)) {
			t.Fatalf("Sum of %x is %x", b, Sum(b))
		}
	}
	for b := range 256 {
		if s := string([]byte{byte(b)}); Sum(s) != crc32.ChecksumIEEE([]byte(s)) {
			t.Fatalf("Sum of %x is %x", s, Sum(s))
		}
	}
}

func fourBytes(n int) string { return string(binary.BigEndian.AppendUint32(nil, uint32(n))) }

// framed is a frame by the chapter's words, however long b is.
func framed(size int, b string) string {
	ahead := fourBytes(size) + b
	return ahead + fourBytes(int(crc32.ChecksumIEEE([]byte(ahead))))
}

func TestFrame(t *testing.T) { // J1
	if f, e := Frame("abc"); e != api.OK || len(f) != 11 || !strings.HasPrefix(f, "\x00\x00\x00\x03abc") || f != framed(3, "abc") {
		t.Errorf("%x %d", f, e)
	}
	d := draw(43)
	for _, size := range []int{0, 1, 255, 256, 65535, 65536, api.MaxBody} {
		b := d.text(size)
		f, e := Frame(b)
		if e != api.OK || f != framed(size, b) {
			t.Errorf("a frame of %d bytes: %d", size, e)
		}
		if o, e := Open(f); e != api.OK || o != b {
			t.Errorf("%d bytes are not what they were: %d", size, e)
		}
	}
	if f, e := Frame(strings.Repeat("x", api.MaxBody+1)); e != api.ErrMany || f != "" {
		t.Errorf("too many: %d bytes, %d", len(f), e)
	}
}

func TestOpenWrong(t *testing.T) { // J1, P1
	whole := framed(3, "abc")
	long := strings.Repeat("x", api.MaxBody+1)
	for name, c := range map[string]struct {
		f    string
		want api.Errno
	}{
		"nothing":                       {"", api.ErrForm},
		"seven bytes":                   {"\x00\x00\x00\x00\x00\x00\x00", api.ErrForm},
		"seven bytes that tell -1":      {"\xff\xff\xff\xff\x00\x00\x00", api.ErrForm},
		"eight bytes of 0":              {strings.Repeat("\x00", 8), api.ErrSum},
		"one told less":                 {framed(2, "abc"), api.ErrForm},
		"one told more":                 {framed(4, "abc"), api.ErrForm},
		"the sum told as well":          {framed(7, "abc"), api.ErrForm},
		"another form, and another sum": {"\x00\x00\x00\x04abcdefg", api.ErrForm},
		"a byte less":                   {whole[:len(whole)-1], api.ErrForm},
		"a byte ahead":                  {"\x00" + whole, api.ErrForm},
		"a byte behind":                 {whole + "\x00", api.ErrForm},
		"another sum":                   {"\x00\x00\x00\x03abcdefg", api.ErrSum},
		"the sum of the body alone":     {"\x00\x00\x00\x03abc" + fourBytes(0x352441c2), api.ErrSum},
		"the sum's lowest byte first":   {whole[:7] + string([]byte{whole[10], whole[9], whole[8], whole[7]}), api.ErrSum},
		"too many, all right":           {framed(api.MaxBody+1, long), api.ErrForm},
		"too many, told less":           {framed(api.MaxBody, long), api.ErrForm},
		"too many, told, not there":     {framed(api.MaxBody+1, "abc"), api.ErrForm},
		"the size's lowest byte first":  {"\x03\x00\x00\x00" + whole[4:], api.ErrForm},
		"2^32 - 1":                      {framed(math.MaxUint32, "abc"), api.ErrForm},
	} {
		if b, e := Open(c.f); e != c.want || b != "" {
			t.Errorf("%s: %q %d and must be %d", name, b, e, c.want)
		}
	}
}

func TestTurnedBytes(t *testing.T) { // J4: a frame of which one byte was turned is not opened
	d := draw(44)
	for _, b := range []string{"", "a", "123456789", d.text(70)} {
		f, _ := Frame(b)
		for at := range len(f) {
			for by := 1; by < 256; by++ {
				s := []byte(f)
				s[at] ^= byte(by)
				want := api.ErrSum
				if at < 4 {
					want = api.ErrForm
				}
				if o, e := Open(string(s)); e != want || o != "" {
					t.Fatalf("%x, byte %d: %q %d", f, at, o, e)
				}
			}
		}
	}
}

func TestWriteByHand(t *testing.T) { // J2: the bytes, one by one
	p := api.Plan{
		Kind: api.Interval, Mode: api.FullOuter, Low: -5, High: 5, Limit: 1,
		Left: []int{api.Int, api.Bool}, Right: []int{api.Text, api.Int}, LKeys: []int{0}, RKeys: []int{1},
		Grouped: true, Group: []int{2}, Aggs: []api.Agg{{Fn: api.CountOf}, {Fn: api.MaxOf, Col: 0}},
	}
	seven, eight := "\x02\x80\x00\x00\x00\x00\x00\x00\x07", "\x02\x80\x00\x00\x00\x00\x00\x00\x08"
	e := api.Engine{
		Join: api.Join{
			Left: api.Buffer{Limit: 1, Mem: []api.Entry{{Key: seven, Time: -2, Seq: 4, Row: row(num(7), flag(1)), Met: true}}},
			Right: api.Buffer{Limit: 1, Runs: [][]api.Entry{
				{{Key: seven, Time: 3, Seq: 0, Row: row(text("a\x00"), num(7))}, {Key: eight, Time: 1, Seq: 2, Row: row(null(), num(8))}},
				{{Key: seven, Time: 3, Seq: 1, Row: row(text(""), num(7)), Met: true}},
			}},
			LMark: api.NoMark, RMark: -1, Seq: 5,
		},
		Groups: []api.Group{
			{Row: row(null()), N: 3, Bags: [][]api.Tally{{}, {{Value: null(), N: 1}, {Value: num(8), N: 2}}}},
			{Row: row(text("b")), N: 1, Bags: [][]api.Tally{nil, {{Value: num(7), N: 1}}}},
		},
		View: []api.Count{{Row: row(null(), num(3), num(8)), N: 1}, {Row: row(text("b"), num(1), num(7)), N: 258}},
	}
	n := func(low byte) string { return "\x00\x00\x00\x00\x00\x00\x00" + string([]byte{low}) }
	want := n(1) + n(9) + seven + "\xff\xff\xff\xff\xff\xff\xff\xfe" + n(4) + n(11) + seven + "\x01\x01" + n(1) + n(0) +
		n(0) + n(2) +
		n(2) + n(9) + seven + n(3) + n(0) + n(15) + "\x03a\x00\xff\x00\x01" + seven + n(0) +
		n(9) + eight + n(1) + n(2) + n(10) + "\x00" + eight + n(0) +
		n(1) + n(9) + seven + n(3) + n(1) + n(12) + "\x03\x00\x01" + seven + n(1) +
		"\xff\xff\xfe\xff\xff\xff\xff\xff" + "\xff\xff\xff\xff\xff\xff\xff\xff" + n(5) +
		n(2) +
		n(1) + "\x00" + n(3) + n(2) + n(0) + n(2) + n(1) + "\x00" + n(1) + n(9) + eight + n(2) +
		n(4) + "\x03b\x00\x01" + n(1) + n(2) + n(0) + n(1) + n(9) + seven + n(1) +
		n(2) +
		n(19) + "\x00" + "\x02\x80\x00\x00\x00\x00\x00\x00\x03" + eight + n(1) +
		n(22) + "\x03b\x00\x01" + "\x02\x80\x00\x00\x00\x00\x00\x00\x01" + seven + "\x00\x00\x00\x00\x00\x00\x01\x02"
	b, f := Write(p, e)
	if f != api.OK || b != want {
		t.Fatalf("%d\n%x and must be\n%x", f, b, want)
	}
	if r, f := Read(p, want); f != api.OK || shown(r) != shown(e) {
		t.Errorf("%d\n%v and must be\n%v", f, r, e)
	}
}

func TestWriteStart(t *testing.T) { // J2: nothing but numbers
	for _, p := range plans() {
		e, _ := engine.Start(p)
		want := strings.Repeat("\x00", 32) + number(api.NoMark) + number(api.NoMark) + strings.Repeat("\x00", 24)
		if b, f := Write(p, e); f != api.OK || b != want {
			t.Errorf("%x %d", b, f)
		}
	}
}

func TestWriteAndRead(t *testing.T) { // J2, J3, J4: what is written is read as it was
	for i, p := range plans() {
		for k, x := range engines(t, p) {
			b, e := Write(p, x)
			if e != api.OK || b != engineBytes(x) {
				t.Fatalf("plan %d, engine %d: %d\n%x and must be\n%x", i, k, e, b, engineBytes(x))
			}
			if y, e := Read(p, b); e != api.OK || shown(y) != shown(x) {
				t.Fatalf("plan %d, engine %d: %d\n%v and must be\n%v", i, k, e, y, x)
			}
		}
	}
}

func TestReadNothingElse(t *testing.T) { // J3, J4: no other bytes are read, but those of another engine
	for i, p := range plans() {
		for _, x := range engines(t, p) {
			b, _ := Write(p, x)
			for k := range len(b) {
				if y, e := Read(p, b[:k]); e != api.ErrForm || shown(y) != shown(api.Engine{}) {
					t.Fatalf("plan %d, the first %d of %d bytes: %v %d", i, k, len(b), y, e)
				}
				for _, by := range []byte{1, 2, 3, 128, 255} {
					s := []byte(b)
					s[k] ^= by
					y, e := Read(p, string(s))
					if e != api.OK && (e != api.ErrForm || shown(y) != shown(api.Engine{})) {
						t.Fatalf("plan %d, byte %d: %v %d", i, k, y, e)
					}
					if e == api.OK && (engine.Check(p, y) != api.OK || engineBytes(y) != string(s)) {
						t.Fatalf("plan %d, byte %d: these are not the bytes of %v", i, k, y)
					}
				}
			}
			for _, more := range []string{"\x00", number(0), b} {
				if _, e := Read(p, b+more); e != api.ErrForm {
					t.Fatalf("plan %d, %d bytes behind: %d", i, len(more), e)
				}
			}
		}
	}
}

// full is an engine with something in each place.
func full(p api.Plan) api.Engine {
	key, _ := value.Key(row(num(7)))
	cells := row(num(7), text("a"), flag(1))
	entry := func(time, seq int) api.Entry {
		return api.Entry{Key: key, Time: time, Seq: seq, Row: slices.Clone(cells)}
	}
	return api.Engine{
		Join: api.Join{
			Left:  api.Buffer{Limit: p.Limit, Mem: []api.Entry{entry(1, 0), entry(2, 1)}},
			Right: api.Buffer{Limit: p.Limit, Mem: []api.Entry{entry(1, 2)}, Runs: [][]api.Entry{{entry(1, 3), entry(1, 4)}, {entry(1, 5)}}},
			LMark: -9, RMark: api.NoMark, Seq: 6,
		},
		Groups: []api.Group{{Row: row(text("a"), flag(1)), N: 2, Bags: [][]api.Tally{nil, {{Value: num(7), N: 2}}, {{Value: null(), N: 1}, {Value: text("a"), N: 1}}, {{Value: flag(0), N: 2}}}}},
		View:   []api.Count{{Row: row(text("a"), flag(1), num(2), num(14), text("a"), flag(0)), N: 1}},
	}
}

// spoils is what makes an engine wrong: what Check says of it then.
func spoils() map[string]struct {
	do   func(e *api.Engine)
	want api.Errno
} {
	return map[string]struct {
		do   func(e *api.Engine)
		want api.Errno
	}{
		"more in memory than may be":   {func(e *api.Engine) { e.Join.Left.Mem = append(e.Join.Left.Mem, e.Join.Right.Mem...) }, api.ErrMany},
		"a run without entries":        {func(e *api.Engine) { e.Join.Right.Runs[0] = nil }, api.ErrForm},
		"memory that falls":            {func(e *api.Engine) { slices.Reverse(e.Join.Left.Mem) }, api.ErrForm},
		"a run that falls":             {func(e *api.Engine) { slices.Reverse(e.Join.Right.Runs[0]) }, api.ErrForm},
		"a key that is no row's":       {func(e *api.Engine) { e.Join.Left.Mem[1].Key = "\x09" }, api.ErrForm},
		"another row's key":            {func(e *api.Engine) { e.Join.Left.Mem[1].Row[0] = num(8) }, api.ErrForm},
		"a key of a Null":              {func(e *api.Engine) { e.Join.Left.Mem[1].Row[0] = null() }, api.ErrForm},
		"a row of another type":        {func(e *api.Engine) { e.Join.Left.Mem[1].Row[1] = num(1) }, api.ErrForm},
		"a row of a cell less":         {func(e *api.Engine) { e.Join.Left.Mem[1].Row = e.Join.Left.Mem[1].Row[:2] }, api.ErrForm},
		"a time that does not fit":     {func(e *api.Engine) { e.Join.Left.Mem[1].Time = api.MaxTime + 1 }, api.ErrForm},
		"a Seq below 0":                {func(e *api.Engine) { e.Join.Left.Mem[0].Seq = -1 }, api.ErrForm},
		"a Seq twice":                  {func(e *api.Engine) { e.Join.Left.Mem[1].Seq = 5 }, api.ErrForm},
		"a Seq not below Seq":          {func(e *api.Engine) { e.Join.Seq = 5 }, api.ErrForm},
		"Seq below 0":                  {func(e *api.Engine) { e.Join.Seq = -1 }, api.ErrRange},
		"Seq above all":                {func(e *api.Engine) { e.Join.Seq = api.MaxSeq + 1 }, api.ErrRange},
		"the left mark":                {func(e *api.Engine) { e.Join.LMark = api.NoMark - 1 }, api.ErrRange},
		"the right mark":               {func(e *api.Engine) { e.Join.RMark = api.MaxTime + 1 }, api.ErrRange},
		"a group of none":              {func(e *api.Engine) { e.Groups[0].N = 0 }, api.ErrForm},
		"a group twice":                {func(e *api.Engine) { e.Groups = append(e.Groups, e.Groups[0]) }, api.ErrForm},
		"a group of another type":      {func(e *api.Engine) { e.Groups[0].Row[0] = num(1) }, api.ErrForm},
		"a bag less":                   {func(e *api.Engine) { e.Groups[0].Bags = e.Groups[0].Bags[:3] }, api.ErrForm},
		"a bag of a count":             {func(e *api.Engine) { e.Groups[0].Bags[0] = e.Groups[0].Bags[1] }, api.ErrForm},
		"tallies that fall":            {func(e *api.Engine) { slices.Reverse(e.Groups[0].Bags[2]) }, api.ErrForm},
		"a tally of none":              {func(e *api.Engine) { e.Groups[0].Bags[2][0].N = 0 }, api.ErrForm},
		"a tally more":                 {func(e *api.Engine) { e.Groups[0].Bags[2][0].N = 2 }, api.ErrForm},
		"a tally of another type":      {func(e *api.Engine) { e.Groups[0].Bags[1][0].Value = text("a") }, api.ErrForm},
		"a view's row of none":         {func(e *api.Engine) { e.View[0].N = 0 }, api.ErrForm},
		"a view's row too often":       {func(e *api.Engine) { e.View[0].N = api.MaxCount + 1 }, api.ErrForm},
		"a view's row twice":           {func(e *api.Engine) { e.View = append(e.View, e.View[0]) }, api.ErrForm},
		"a view's row of a cell less":  {func(e *api.Engine) { e.View[0].Row = e.View[0].Row[:5] }, api.ErrMany},
		"a view's row of another type": {func(e *api.Engine) { e.View[0].Row[0] = num(1) }, api.ErrType},
	}
}

func TestWrongEngines(t *testing.T) { // J2: Check's errors; J3: ErrForm, for there is no such engine
	p := plans()[3]
	for name, s := range spoils() {
		e := full(p)
		b := engineBytes(e)
		if w, f := Write(p, e); f != api.OK || w != b {
			t.Fatalf("ahead of it: %d", f)
		}
		s.do(&e)
		if w, f := Write(p, e); f != s.want || w != "" {
			t.Errorf("Write, %s: %x %d and must be %d", name, w, f, s.want)
		}
		if engineBytes(e) == b {
			t.Fatalf("%s: the bytes are the same", name)
		}
		if r, f := Read(p, engineBytes(e)); f != api.ErrForm || shown(r) != shown(api.Engine{}) {
			t.Errorf("Read, %s: %v %d", name, r, f)
		}
	}
	e := full(p)
	e.Join.Left.Limit++
	if w, f := Write(p, e); f != api.ErrForm || w != "" {
		t.Errorf("another limit: %x %d", w, f)
	}
}

func TestWrongBytes(t *testing.T) { // J3: bytes that no engine, right or wrong, has
	p := plans()[3]
	e := full(p)
	b := engineBytes(e)
	first := entryBytes(e.Join.Left.Mem[0])
	notMet := len(first) - 8
	tally := tallyBytes(e.Groups[0].Bags[1][0])
	view := keyed(e.View[0].Row)
	for name, s := range map[string]string{
		"nothing":                      "",
		"entries below 0":              number(-1) + b[8:],
		"more entries than bytes":      number(math.MaxInt) + b[8:],
		"the least number of entries":  number(math.MinInt) + b[8:],
		"an entry Met twice":           b[:8] + first[:notMet] + number(2) + b[8+len(first):],
		"an entry Met -1":              b[:8] + first[:notMet] + number(-1) + b[8+len(first):],
		"Met in its highest byte":      b[:8] + first[:notMet] + "\x01" + number(0)[1:] + b[8+len(first):],
		"a key below 0":                b[:8] + number(-1) + b[16:],
		"a key of all that is":         b[:8] + number(len(b)-16) + b[16:],
		"a key of more than that":      b[:8] + number(len(b)-15) + b[16:],
		"a tally of no cell":           strings.Replace(b, tally, keyed(nil)+number(2), 1),
		"a tally of two cells":         strings.Replace(b, tally, keyed(row(num(7), num(7)))+number(2), 1),
		"a row that is no key":         strings.Replace(b, view, counted("\x09"), 1),
		"a key that goes on":           strings.Replace(b, view, counted(view[8:]+"\x01"), 1),
		"a text not ended":             strings.Replace(b, view, counted("\x03a"), 1),
		"a Bool of 2":                  strings.Replace(b, keyed(row(flag(0))), counted("\x01\x02"), 1),
		"a text of too many":           strings.Replace(b, keyed(row(text("a"))), counted("\x03"+strings.Repeat("a", 65)+"\x00\x01"), 1),
		"a row of too many":            strings.Replace(b, view, counted(strings.Repeat("\x00", 9)), 1),
		"the marks are not there":      b[:len(bufferBytes(e.Join.Left)+bufferBytes(e.Join.Right))],
		"the sides turned, and a mark": bufferBytes(e.Join.Right) + bufferBytes(e.Join.Left) + number(0) + b,
	} {
		if s == b {
			t.Fatalf("%s: nothing was turned", name)
		}
		if r, f := Read(p, s); f != api.ErrForm || shown(r) != shown(api.Engine{}) {
			t.Errorf("%s: %v %d", name, r, f)
		}
	}
}

func TestRowWithoutCells(t *testing.T) { // J3: of a plan that groups by nothing a group's row has no cells, and a wrong key is not such a row
	p := plans()[4]
	e := engines(t, p)[2]
	b, group := engineBytes(e), keyed(nil)+number(e.Groups[0].N)
	if len(e.Groups) != 1 || strings.Count(b, group) != 1 {
		t.Fatal("the engine is not as it must be")
	}
	for key, want := range map[string]api.Errno{"": api.OK, "\x09": api.ErrForm, "\x00": api.ErrForm, "\x03": api.ErrForm} {
		if _, f := Read(p, strings.Replace(b, group, counted(key)+number(e.Groups[0].N), 1)); f != want {
			t.Errorf("%x: %d and must be %d", key, f, want)
		}
	}
}

func TestOtherPlans(t *testing.T) { // J3: the bytes of one plan's engine, read with another plan
	l := plans()
	for i, p := range l {
		x := engines(t, p)[3]
		b, _ := Write(p, x)
		for k, q := range l {
			want := api.ErrForm
			x.Join.Left.Limit, x.Join.Right.Limit = q.Limit, q.Limit
			if engine.Check(q, x) == api.OK {
				want = api.OK
			}
			if y, e := Read(q, b); e != want || e == api.OK && shown(y) != shown(x) {
				t.Errorf("%d by %d: %v %d and must be %d", i, k, y, e, want)
			}
		}
	}
}

func TestWrongPlans(t *testing.T) { // J2, J3, P1: the plan's error is told ahead of all others
	for _, spoil := range []func(p *api.Plan){
		func(p *api.Plan) { p.Kind = 0 },
		func(p *api.Plan) { p.Limit = 0 },
		func(p *api.Plan) { p.Aggs = nil },
		func(p *api.Plan) { p.Left = []int{0, api.Int} },
		func(p *api.Plan) { p.Group = []int{6} },
	} {
		p := plans()[3]
		spoil(&p)
		want := plan.Check(p)
		b, e := Write(p, api.Engine{})
		if e != want || b != "" {
			t.Errorf("Write: %x %d and must be %d", b, e, want)
		}
		for _, b := range []string{"", engineBytes(full(p)), strings.Repeat("x", api.MaxBody+1)} {
			if x, e := Read(p, b); e != want || shown(x) != shown(api.Engine{}) {
				t.Errorf("Read: %v %d and must be %d", x, e, want)
			}
		}
	}
}

func TestBounds(t *testing.T) { // J2, J3: MaxBody bytes, and one more
	p, e := sized(api.MaxBody)
	b, f := Write(p, e)
	if f != api.OK || len(b) != api.MaxBody || b != engineBytes(e) {
		t.Fatalf("%d bytes, %d", len(b), f)
	}
	if x, f := Read(p, b); f != api.OK || shown(x) != shown(e) {
		t.Errorf("as many as may be: %d", f)
	}
	p, e = sized(api.MaxBody + 1)
	if engine.Check(p, e) != api.OK || len(engineBytes(e)) != api.MaxBody+1 {
		t.Fatal("the engine is not as it must be")
	}
	if b, f := Write(p, e); f != api.ErrMany || b != "" {
		t.Errorf("one more: %d bytes, %d", len(b), f)
	}
	if x, f := Read(p, engineBytes(e)); f != api.ErrForm || shown(x) != shown(api.Engine{}) {
		t.Errorf("one more is read: %d", f)
	}
	e.Join.Seq = -1
	if b, f := Write(p, e); f != api.ErrRange || b != "" {
		t.Errorf("Check's error is not told first: %d", f)
	}
	if _, f := Read(p, strings.Repeat("\x00", 8*api.MaxRows)); f != api.ErrForm {
		t.Errorf("zeros: %d", f)
	}
}

// lists is the lists of an engine, each a call that writes over it and the room
// behind it.
func lists(e api.Engine) (spoil []func()) {
	entries := func(l []api.Entry) {
		for _, x := range l {
			spoil = append(spoil, func() { fill(x.Row, num(-99)) })
		}
		spoil = append(spoil, func() { fill(l, api.Entry{Seq: -99}) })
	}
	for _, b := range []api.Buffer{e.Join.Left, e.Join.Right} {
		entries(b.Mem)
		for _, run := range b.Runs {
			entries(run)
		}
		spoil = append(spoil, func() { fill(b.Runs, nil) })
	}
	for _, g := range e.Groups {
		spoil = append(spoil, func() { fill(g.Row, num(-99)) })
		for _, bag := range g.Bags {
			spoil = append(spoil, func() { fill(bag, api.Tally{N: -99}) })
		}
		spoil = append(spoil, func() { fill(g.Bags, nil) })
	}
	for _, c := range e.View {
		spoil = append(spoil, func() { fill(c.Row, num(-99)) })
	}
	return append(spoil, func() { fill(e.Groups, api.Group{}) }, func() { fill(e.View, api.Count{}) })
}

func fill[T any](l []T, with T) {
	l = l[:cap(l)]
	for i := range l {
		l[i] = with
	}
}

// parts is the lists of an engine that hold no other lists, each as a text.
func parts(e api.Engine) (l []func() string) {
	list := func(x any) { l = append(l, func() string { return shown(x) }) }
	for _, b := range []api.Buffer{e.Join.Left, e.Join.Right} {
		for _, run := range append([][]api.Entry{b.Mem}, b.Runs...) {
			for _, x := range run {
				list(x.Row)
			}
		}
	}
	for _, g := range e.Groups {
		list(g.Row)
		for _, bag := range g.Bags {
			list(bag)
		}
	}
	for _, c := range e.View {
		list(c.Row)
	}
	return l
}

func TestMemory(t *testing.T) { // P2: what is handed in is only read, and no list of an answer is another one of it
	p := plans()[3]
	e := full(p)
	was := shown(e)
	b, _ := Write(p, e)
	if shown(e) != was {
		t.Error("Write changed what it was handed")
	}
	first, _ := Read(p, b)
	var want []string
	for _, part := range parts(first) {
		want = append(want, part())
	}
	for i := range lists(first) {
		x, _ := Read(p, b)
		now := parts(x)
		lists(x)[i]()
		turned := 0
		for k := range now {
			if now[k]() != want[k] {
				turned++
			}
		}
		if turned > 1 {
			t.Errorf("with list %d %d others change", i, turned-1)
		}
		if y, f := Read(p, b); f != api.OK || shown(y) != was {
			t.Errorf("behind list %d: %v %d", i, y, f)
		}
	}
}

func TestEmptyLists(t *testing.T) { // P2: nil or not
	p := plans()[0]
	e, _ := engine.Start(p)
	want, _ := Write(p, e)
	e.Join.Left.Mem, e.Join.Left.Runs, e.Groups, e.View = []api.Entry{}, [][]api.Entry{}, []api.Group{}, []api.Count{}
	if b, f := Write(p, e); f != api.OK || b != want {
		t.Errorf("%x %d", b, f)
	}
}

func TestAnswersHangOnWhatIsHandedIn(t *testing.T) { // P3
	p := plans()[3]
	e := full(p)
	b, _ := Write(p, e)
	f, _ := Frame(b)
	for range 3 {
		Read(p, b[:len(b)-1])
		Open(f[1:])
		again, e1 := Write(p, e)
		x, e2 := Read(p, b)
		g, e3 := Frame(b)
		o, e4 := Open(f)
		if again != b || shown(x) != shown(e) || g != f || o != b || e1+e2+e3+e4 != api.OK {
			t.Fatal("the same was asked, and the answers are not the same")
		}
	}
}
