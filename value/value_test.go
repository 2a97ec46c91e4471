package value

import (
	"cmp"
	"math"
	"reflect"
	"slices"
	"strings"
	"testing"

	"meetwater/api"
)

func null() api.Value         { return api.Value{} }
func flag(n int) api.Value    { return api.Value{Kind: api.Bool, N: n} }
func num(n int) api.Value     { return api.Value{Kind: api.Int, N: n} }
func word(s string) api.Value { return api.Value{Kind: api.Text, S: s} }

// draw gives numbers that are the same each time.
type draw uint64

func (d *draw) n(n int) int {
	*d = *d*6364136223846793005 + 1442695040888963407
	return int(uint64(*d) >> 33 % uint64(n))
}

var edgeInts = []int{math.MinInt, math.MinInt + 1, -257, -256, -255, -1, 0, 1, 255, 256, 1 << 32, math.MaxInt - 1, math.MaxInt}

var edgeTexts = []string{"", "\x00", "\x00\x00", "\x00\x01", "\x00\xff", "\x01", "a", "a\x00", "a\x00b", "a\x01", "aa", "b", "\xff", "\xff\xff", strings.Repeat("\x00", api.MaxText), strings.Repeat("x", api.MaxText)}

// rightValues is values of all kinds, rising.
func rightValues() []api.Value {
	l := []api.Value{null(), flag(0), flag(1)}
	for _, n := range edgeInts {
		l = append(l, num(n))
	}
	texts := slices.Clone(edgeTexts)
	slices.Sort(texts)
	for _, s := range texts {
		l = append(l, word(s))
	}
	return l
}

// rightRows is the row without cells, each value alone, all of two, and some longer ones.
func rightRows() [][]api.Value {
	values := rightValues()
	rows := [][]api.Value{nil, slices.Repeat([]api.Value{null()}, api.MaxCells)}
	for _, a := range values {
		rows = append(rows, []api.Value{a})
		for _, b := range values {
			rows = append(rows, []api.Value{a, b})
		}
	}
	d := draw(3)
	for range 200 {
		row := make([]api.Value, d.n(api.MaxCells+1))
		for i := range row {
			row[i] = values[d.n(len(values))]
		}
		rows = append(rows, row)
	}
	return rows
}

func TestCheck(t *testing.T) { // A1
	long := strings.Repeat("x", api.MaxText+1)
	for _, c := range []struct {
		v    api.Value
		want api.Errno
	}{
		{null(), api.OK}, {flag(0), api.OK}, {flag(1), api.OK},
		{num(0), api.OK}, {num(math.MinInt), api.OK}, {num(math.MaxInt), api.OK},
		{word(""), api.OK}, {word("\x00\xff"), api.OK}, {word(long[1:]), api.OK},
		{api.Value{Kind: -1}, api.ErrKind}, {api.Value{Kind: 4}, api.ErrKind},
		{api.Value{Kind: 256}, api.ErrKind}, {api.Value{Kind: math.MinInt, N: 1, S: long}, api.ErrKind},
		{api.Value{N: 1}, api.ErrForm}, {api.Value{N: -1}, api.ErrForm}, {api.Value{S: "a"}, api.ErrForm},
		{flag(2), api.ErrForm}, {flag(-1), api.ErrForm}, {flag(257), api.ErrForm},
		{api.Value{Kind: api.Bool, S: "a"}, api.ErrForm}, {api.Value{Kind: api.Bool, N: 1, S: "a"}, api.ErrForm},
		{api.Value{Kind: api.Int, N: 5, S: "a"}, api.ErrForm}, {api.Value{Kind: api.Int, S: long}, api.ErrForm},
		{api.Value{Kind: api.Text, N: 1}, api.ErrForm}, {api.Value{Kind: api.Text, N: 1, S: long}, api.ErrForm},
		{word(long), api.ErrMany},
	} {
		if got := Check(c.v); got != c.want {
			t.Errorf("Check(%v) is %d and must be %d", c.v, got, c.want)
		}
	}
}

// anyValues is values, right and wrong, rising.
func anyValues() []api.Value {
	long := strings.Repeat("x", api.MaxText+1)
	return []api.Value{
		{Kind: math.MinInt, N: math.MaxInt, S: "z"}, {Kind: -1},
		{N: -1, S: "z"}, null(), {S: "a"}, {N: 1},
		flag(-1), flag(0), {Kind: api.Bool, S: "\x00"}, flag(1), flag(2),
		num(math.MinInt), num(-1), num(0), {Kind: api.Int, S: "a"}, num(1), num(math.MaxInt),
		{Kind: api.Text, N: -1, S: "z"}, word(""), word("\x00"), word("\x00\x01"), word("a"), word("a\x00"), word("aa"), word("b"),
		word(long[1:]), word(long), word("\xff"), {Kind: api.Text, N: 1},
		{Kind: 7}, {Kind: math.MaxInt, N: math.MinInt},
	}
}

func TestCompare(t *testing.T) { // A2
	values := anyValues()
	for i, a := range values {
		for j, b := range values {
			if got, want := Compare(a, b), cmp.Compare(i, j); got != want {
				t.Errorf("Compare(%v, %v) is %d and must be %d", a, b, got, want)
			}
		}
	}
}

func TestRows(t *testing.T) { // A2
	many := slices.Repeat([]api.Value{num(9)}, api.MaxCells+1)
	rising := [][]api.Value{
		nil,
		{null()}, {null(), null()}, {null(), word("z")},
		{flag(1), word("z")},
		{num(-1)}, {num(-1), null()}, {num(-1), word("a")}, {num(-1), word("a"), null()}, {num(-1), word("b")},
		{num(0)}, many[1:], many,
		{word("a"), num(5)}, {word("a\x00"), num(4)},
		{{Kind: 7}},
	}
	for i, a := range rising {
		for j, b := range rising {
			if got, want := Rows(a, b), cmp.Compare(i, j); got != want {
				t.Errorf("Rows(%v, %v) is %d and must be %d", a, b, got, want)
			}
		}
	}
	if got := Rows(nil, []api.Value{}); got != 0 {
		t.Errorf("two rows without cells: %d", got)
	}
}

func TestKey(t *testing.T) { // A3
	for _, c := range []struct {
		row  []api.Value
		want string
	}{
		{nil, ""},
		{[]api.Value{}, ""},
		{[]api.Value{null(), null()}, "\x00\x00"},
		{[]api.Value{flag(0), flag(1)}, "\x01\x00\x01\x01"},
		{[]api.Value{num(-1), word("a")}, "\x02\x7f\xff\xff\xff\xff\xff\xff\xff\x03a\x00\x01"},
		{[]api.Value{num(math.MinInt)}, "\x02\x00\x00\x00\x00\x00\x00\x00\x00"},
		{[]api.Value{num(math.MaxInt)}, "\x02\xff\xff\xff\xff\xff\xff\xff\xff"},
		{[]api.Value{num(0x0102030405060708)}, "\x02\x81\x02\x03\x04\x05\x06\x07\x08"},
		{[]api.Value{word(""), null()}, "\x03\x00\x01\x00"},
		{[]api.Value{word("\x00a\x00\x00\xff\x01")}, "\x03\x00\xffa\x00\xff\x00\xff\xff\x01\x00\x01"},
		{slices.Repeat([]api.Value{flag(1)}, api.MaxCells), strings.Repeat("\x01\x01", api.MaxCells)},
	} {
		if got, e := Key(c.row); got != c.want || e != api.OK {
			t.Errorf("Key(%v) is %x %d and must be %x", c.row, got, e, c.want)
		}
	}
}

func TestKeyOfWrongRows(t *testing.T) { // A3, P1
	long := word(strings.Repeat("x", api.MaxText+1))
	for _, c := range []struct {
		row  []api.Value
		want api.Errno
	}{
		{slices.Repeat([]api.Value{null()}, api.MaxCells+1), api.ErrMany},
		{slices.Repeat([]api.Value{{Kind: 9}}, api.MaxCells+1), api.ErrMany},
		{[]api.Value{num(1), {Kind: 9}}, api.ErrKind},
		{[]api.Value{num(1), {Kind: 9}, flag(2), long}, api.ErrKind},
		{[]api.Value{flag(2), {Kind: 9}, long}, api.ErrForm},
		{[]api.Value{long, flag(2), {Kind: 9}}, api.ErrMany},
		{[]api.Value{{Kind: 256}}, api.ErrKind},
	} {
		if got, e := Key(c.row); got != "" || e != c.want {
			t.Errorf("Key(%v) is %x %d and must be nothing and %d", c.row, got, e, c.want)
		}
	}
}

func sameRow(a, b []api.Value) bool { return slices.Equal(a, b) }

func TestBackOfKeys(t *testing.T) { // A4
	for _, row := range rightRows() {
		key, e := Key(row)
		if e != api.OK {
			t.Fatalf("Key(%v): %d", row, e)
		}
		if got, e := Back(key); e != api.OK || !sameRow(got, row) {
			t.Errorf("Back(%x) is %v %d and must be %v", key, got, e, row)
		}
	}
}

func TestBackOfNoKey(t *testing.T) { // A4
	x := strings.Repeat("x", api.MaxText)
	zeros := strings.Repeat("\x00\xff", api.MaxText)
	for _, key := range []string{
		"\x01", "\x01\x02", "\x01\xff", "\x00\x01",
		"\x02", "\x02\x00", "\x02\x80\x00\x00\x00\x00\x00\x00",
		"\x03", "\x03a", "\x03a\x00", "\x03a\x00\x00", "\x03a\x00\x02", "\x03a\x00\xfe\x00\x01", "\x03a\x00\xff",
		"\x03" + x + "x\x00\x01", "\x03" + zeros + "\x00\xff\x00\x01", "\x03" + x, "\x03" + strings.Repeat(x, 1000),
		"\x04", "\xff", "\x00\x04",
		strings.Repeat("\x00", api.MaxCells+1), strings.Repeat("\x03\x00\x01", api.MaxCells+1), strings.Repeat("\x00", 10000),
	} {
		if got, e := Back(key); len(got) != 0 || e != api.ErrForm {
			t.Errorf("Back(%.40x) is %v %d and must be nothing and ErrForm", key, got, e)
		}
	}
}

// Whatever Back takes for a key must be the key of what it answers: of each
// right key all beginnings, and all texts with one byte put otherwise, are asked.
func TestBackTakesKeysOnly(t *testing.T) { // A4, A5
	ask := func(key string) {
		row, e := Back(key)
		again, f := Key(row)
		if e == api.OK && (f != api.OK || again != key) {
			t.Errorf("Back(%x) is %v, whose key is %x %d", key, row, again, f)
		}
		if e != api.OK && (e != api.ErrForm || len(row) != 0) {
			t.Errorf("Back(%x) is %v %d", key, row, e)
		}
	}
	for _, row := range [][]api.Value{nil, {null(), flag(1), num(-5), word("a\x00b")}, {word(""), word("\x00")}, {num(1), num(2), num(3), num(4), num(5), num(6), num(7), num(8)}} {
		key, _ := Key(row)
		for i := range len(key) {
			ask(key[:i])
			for b := range 256 {
				ask(key[:i] + string([]byte{byte(b)}) + key[i+1:])
				ask(key[:i] + string([]byte{byte(b)}) + key[i:])
			}
		}
		for b := range 256 {
			ask(key + string([]byte{byte(b)}))
		}
	}
	d := draw(7)
	for range 20000 {
		key := make([]byte, d.n(14))
		for i := range key {
			key[i] = []byte{0, 1, 2, 3, 4, 255}[d.n(6)]
		}
		ask(string(key))
	}
}

func TestKeysStandInTheOrderOfRows(t *testing.T) { // A5
	rows := rightRows()
	keys := make([]string, len(rows))
	for i, row := range rows {
		keys[i], _ = Key(row)
	}
	for i := range rows {
		for j := range rows {
			if want, got := Rows(rows[i], rows[j]), strings.Compare(keys[i], keys[j]); want != got {
				t.Fatalf("rows %v and %v: %d; keys %x and %x: %d", rows[i], rows[j], want, keys[i], keys[j], got)
			}
		}
	}
}

func TestRowsAreOnlyRead(t *testing.T) { // P2
	room := []api.Value{num(1), word("a"), flag(1), {Kind: 9}}
	was := slices.Clone(room)
	Key(room[:2])
	Key(room)
	Rows(room[:1], room[:2])
	if !slices.Equal(room, was) {
		t.Errorf("what was handed in is %v and was %v", room, was)
	}
}

func TestAnswersAreNewMemory(t *testing.T) { // P2, P3
	key, _ := Key([]api.Value{num(1), word("a")})
	first, _ := Back(key)
	second, _ := Back(key)
	first[0] = num(9)
	first = append(first, num(8))
	third, _ := Back(key)
	want := []api.Value{num(1), word("a")}
	if !reflect.DeepEqual(second, want) || !reflect.DeepEqual(third, want) {
		t.Errorf("answers are %v and %v and must be %v", second, third, want)
	}
}
