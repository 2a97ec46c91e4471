package buffer

import (
	"cmp"
	"math"
	"reflect"
	"slices"
	"strings"
	"testing"

	"meetwater/api"
	"meetwater/value"
)

func num(n int) api.Value     { return api.Value{Kind: api.Int, N: n} }
func word(s string) api.Value { return api.Value{Kind: api.Text, S: s} }

// keyOf is the key of a row of one Text.
func keyOf(s string) string {
	key, _ := value.Key([]api.Value{word(s)})
	return key
}

func entry(s string, time, seq int) api.Entry {
	return api.Entry{Key: keyOf(s), Time: time, Seq: seq, Row: []api.Value{word(s), num(seq)}}
}

func list(l ...api.Entry) []api.Entry { return l }

func met(e api.Entry) api.Entry {
	e.Met = true
	return e
}

// manyEntries is n entries of rising places.
func manyEntries(n int) (l []api.Entry) {
	for i := range n {
		l = append(l, entry("a", i, i))
	}
	return l
}

func sameEntry(a, b api.Entry) bool {
	return a.Key == b.Key && a.Time == b.Time && a.Seq == b.Seq && a.Met == b.Met && slices.Equal(a.Row, b.Row)
}

func sameList(a, b []api.Entry) bool { return slices.EqualFunc(a, b, sameEntry) }

func sameBuffer(a, b api.Buffer) bool {
	return a.Limit == b.Limit && sameList(a.Mem, b.Mem) && slices.EqualFunc(a.Runs, b.Runs, sameList)
}

func deepList(l []api.Entry) []api.Entry {
	out := slices.Clone(l)
	for i := range out {
		out[i].Row = slices.Clone(out[i].Row)
	}
	return out
}

func deep(b api.Buffer) api.Buffer {
	b.Mem, b.Runs = deepList(b.Mem), slices.Clone(b.Runs)
	for i := range b.Runs {
		b.Runs[i] = deepList(b.Runs[i])
	}
	return b
}

// sample has entries in memory and in three runs, whose places are mixed.
func sample() api.Buffer {
	return api.Buffer{Limit: 3, Mem: list(entry("a", 3, 7), entry("b", 1, 2)), Runs: [][]api.Entry{
		list(entry("a", 1, 0), met(entry("a", 3, 1)), entry("b", 5, 3)),
		list(met(entry("a", 3, 5))),
		list(entry("a", 2, 9), entry("c", -4, 4)),
	}}
}

// sampleEntries is sample's, by rising places.
func sampleEntries() []api.Entry {
	return list(entry("a", 1, 0), entry("a", 2, 9), met(entry("a", 3, 1)), met(entry("a", 3, 5)), entry("a", 3, 7), entry("b", 1, 2), entry("b", 5, 3), entry("c", -4, 4))
}

// draw gives numbers that are the same each time.
type draw uint64

func (d *draw) n(n int) int {
	*d = *d*6364136223846793005 + 1442695040888963407
	return int(uint64(*d) >> 33 % uint64(n))
}

func TestNew(t *testing.T) { // F1
	for limit, want := range map[int]api.Errno{
		1: api.OK, 2: api.OK, api.MaxLimit: api.OK,
		0: api.ErrRange, -1: api.ErrRange, api.MaxLimit + 1: api.ErrRange, math.MaxInt: api.ErrRange, math.MinInt: api.ErrRange,
	} {
		b, e := New(limit)
		if e != want || e == api.OK && (b.Limit != limit || Check(b) != api.OK) || e != api.OK && b.Limit != 0 || len(b.Mem)+len(b.Runs) != 0 {
			t.Errorf("New(%d) is %v %d", limit, b, e)
		}
	}
}

func TestCheck(t *testing.T) { // F1
	full := manyEntries(api.MaxRows + 1)
	run := func(l ...api.Entry) api.Buffer { return api.Buffer{Limit: 1, Runs: [][]api.Entry{l}} }
	mem := func(l ...api.Entry) api.Buffer { return api.Buffer{Limit: 64, Mem: l} }
	with := func(e api.Entry, do func(e *api.Entry)) api.Entry {
		do(&e)
		return e
	}
	a := entry("a", 1, 1)
	long := slices.Repeat([]api.Value{num(1)}, api.MaxCells+1)
	for name, c := range map[string]struct {
		b    api.Buffer
		want api.Errno
	}{
		"nothing":                        {api.Buffer{}, api.ErrRange},
		"no entries":                     {api.Buffer{Limit: 1}, api.OK},
		"empty lists":                    {api.Buffer{Limit: 64, Mem: []api.Entry{}, Runs: [][]api.Entry{}}, api.OK},
		"sample":                         {sample(), api.OK},
		"Limit 65":                       {api.Buffer{Limit: 65}, api.ErrRange},
		"Limit below 0":                  {api.Buffer{Limit: -1, Mem: list(a)}, api.ErrRange},
		"a full memory":                  {mem(full[:64]...), api.OK},
		"memory above MaxLimit":          {mem(full[:65]...), api.ErrMany},
		"memory above Limit":             {api.Buffer{Limit: 2, Mem: full[:3]}, api.ErrMany},
		"memory at Limit":                {api.Buffer{Limit: 3, Mem: full[:3]}, api.OK},
		"as many as may be":              {run(full[:api.MaxRows]...), api.OK},
		"one more":                       {run(full...), api.ErrMany},
		"one more with memory":           {api.Buffer{Limit: 1, Mem: full[:1], Runs: [][]api.Entry{full[1:]}}, api.ErrMany},
		"one more in two runs":           {api.Buffer{Limit: 1, Runs: [][]api.Entry{full[:9], full[9:]}}, api.ErrMany},
		"as many in two runs":            {api.Buffer{Limit: 1, Mem: full[:1], Runs: [][]api.Entry{full[9:], full[2:9]}}, api.OK},
		"a run may be above Limit":       {run(full[:100]...), api.OK},
		"the key of no cells":            {mem(with(a, func(e *api.Entry) { e.Key = "" })), api.OK},
		"a row without cells":            {mem(with(a, func(e *api.Entry) { e.Row = nil })), api.OK},
		"a row that has not the key":     {mem(with(a, func(e *api.Entry) { e.Row = []api.Value{num(9)} })), api.OK},
		"a key of no row":                {mem(with(a, func(e *api.Entry) { e.Key = "a" })), api.ErrForm},
		"a key of no row, in a run":      {run(with(a, func(e *api.Entry) { e.Key = "\x01\x02" })), api.ErrForm},
		"a key of a row and more":        {mem(with(a, func(e *api.Entry) { e.Key += "\x09" })), api.ErrForm},
		"a wrong row":                    {mem(with(entry("a", 1, 1), func(e *api.Entry) { e.Row[0].N = 1 })), api.ErrForm},
		"a row of no kind, in a run":     {run(with(entry("a", 1, 1), func(e *api.Entry) { e.Row[1].Kind = 4 })), api.ErrForm},
		"a row of many cells":            {mem(with(a, func(e *api.Entry) { e.Row = long })), api.ErrForm},
		"a row of as many as may be":     {mem(with(a, func(e *api.Entry) { e.Row = long[1:] })), api.OK},
		"a long text":                    {mem(with(a, func(e *api.Entry) { e.Row = []api.Value{word(strings.Repeat("x", 65))} })), api.ErrForm},
		"the bounds of times":            {mem(entry("a", -api.MaxTime, 1), entry("a", api.MaxTime, 1)), api.OK},
		"a time above":                   {mem(entry("a", api.MaxTime+1, 1)), api.ErrForm},
		"a time below":                   {run(entry("a", api.NoMark, 1)), api.ErrForm},
		"the bounds of Seq":              {mem(entry("a", 1, 0), entry("a", 1, api.MaxSeq)), api.OK},
		"a Seq above":                    {mem(entry("a", 1, api.MaxSeq+1)), api.ErrForm},
		"a Seq below":                    {run(entry("a", 1, -1)), api.ErrForm},
		"a run without entries":          {api.Buffer{Limit: 1, Runs: [][]api.Entry{list(a), {}}}, api.ErrForm},
		"a run of nil":                   {api.Buffer{Limit: 1, Runs: [][]api.Entry{nil}}, api.ErrForm},
		"memory falls by keys":           {mem(entry("b", 1, 1), entry("a", 2, 2)), api.ErrForm},
		"memory falls by times":          {mem(entry("a", 2, 1), entry("a", 1, 2)), api.ErrForm},
		"memory falls by Seq":            {mem(entry("a", 1, 2), entry("a", 1, 1)), api.ErrForm},
		"a run falls":                    {run(entry("a", 1, 1), entry("b", 1, 1), entry("a", 2, 2)), api.ErrForm},
		"the second run falls":           {api.Buffer{Limit: 1, Runs: [][]api.Entry{list(a), list(entry("b", 2, 2), entry("b", 1, 1))}}, api.ErrForm},
		"rising by key, falling by rest": {run(entry("a", 9, 9), entry("b", 8, 8), entry("b", 9, 7)), api.OK},
		"twice in memory":                {mem(a, a), api.ErrForm},
		"twice in a run":                 {run(a, met(a)), api.ErrForm},
		"twice in memory and a run":      {api.Buffer{Limit: 1, Mem: list(a), Runs: [][]api.Entry{list(entry("a", 1, 0), a)}}, api.ErrForm},
		"twice in two runs":              {api.Buffer{Limit: 1, Runs: [][]api.Entry{list(a, entry("b", 1, 1)), list(entry("a", 0, 0), met(a))}}, api.ErrForm},
		"one Seq of two places":          {api.Buffer{Limit: 1, Mem: list(a), Runs: [][]api.Entry{list(entry("a", 2, 1)), list(entry("b", 1, 1))}}, api.OK},
		"ErrRange is first":              {api.Buffer{Limit: 0, Mem: full}, api.ErrRange},
		"ErrMany ahead of ErrForm":       {api.Buffer{Limit: 1, Mem: list(a, a)}, api.ErrMany},
		"ErrMany of runs ahead of it":    {api.Buffer{Limit: 1, Mem: list(api.Entry{Key: "a"}), Runs: [][]api.Entry{{}, full}}, api.ErrMany},
	} {
		if got := Check(c.b); got != c.want {
			t.Errorf("%s: %d and must be %d", name, got, c.want)
		}
	}
}

func TestTheOthersTellCheckFirst(t *testing.T) { // F1, P1: ahead of the errors of their own
	a := entry("a", 1, 1)
	for _, b := range []api.Buffer{
		{Limit: 0, Mem: list(a)}, {Limit: 1, Mem: manyEntries(2)}, {Limit: 2, Mem: list(a, a)}, {Limit: 1, Runs: [][]api.Entry{nil}},
		{Limit: 1, Mem: list(a), Runs: [][]api.Entry{list(a)}},
	} {
		want := Check(b)
		put, e0 := Put(b, api.Entry{Key: "a", Seq: -1})
		put2, e1 := Put(b, a)
		meet, e2 := Meet(b, a.Key, 1, 1)
		take, e3 := Take(b, "no key", 7, 7)
		scan, e4 := Scan(b, a.Key, 0, 9)
		drop, e5 := Drop(b, 9)
		pack, e6 := Pack(b)
		all, e7 := All(b)
		for i, e := range []api.Errno{e0, e1, e2, e3, e4, e5, e6, e7} {
			if want == api.OK || e != want {
				t.Errorf("call %d of %v: %d and must be %d", i, b, e, want)
			}
		}
		for i, got := range []api.Buffer{put, put2, meet, take, drop, pack} {
			if !reflect.DeepEqual(got, api.Buffer{}) {
				t.Errorf("call %d: %v beside an error", i, got)
			}
		}
		if len(scan)+len(all) != 0 {
			t.Errorf("%v, %v beside an error", scan, all)
		}
	}
}

func TestPut(t *testing.T) { // F2: example 6 of the document, and further
	b, _ := New(1)
	for i, step := range []struct {
		e    api.Entry
		want api.Buffer
	}{
		{entry("b", 1, 1), api.Buffer{Limit: 1, Mem: list(entry("b", 1, 1))}},
		{entry("a", 5, 2), api.Buffer{Limit: 1, Runs: [][]api.Entry{list(entry("a", 5, 2), entry("b", 1, 1))}}},
		{met(entry("b", 0, 3)), api.Buffer{Limit: 1, Mem: list(met(entry("b", 0, 3))), Runs: [][]api.Entry{list(entry("a", 5, 2), entry("b", 1, 1))}}},
		{entry("b", 0, 0), api.Buffer{Limit: 1, Runs: [][]api.Entry{list(entry("a", 5, 2), entry("b", 1, 1)), list(entry("b", 0, 0), met(entry("b", 0, 3)))}}},
	} {
		next, e := Put(b, step.e)
		if e != api.OK || !sameBuffer(next, step.want) || Check(next) != api.OK {
			t.Fatalf("step %d: %v %d and must be %v", i, next, e, step.want)
		}
		b = next
	}
}

func TestPutIsByPlaces(t *testing.T) { // F2: wherever in memory the place is
	mem := list(entry("a", 1, 5), entry("b", 1, 1), entry("b", 1, 7), entry("b", 3, 0))
	for _, e := range []api.Entry{
		entry("", 9, 9), entry("a", 1, 4), entry("a", 1, 6), entry("a", 2, 0), entry("b", 0, 9), entry("b", 1, 3), entry("b", 1, 8), entry("b", 2, 0), entry("b", 3, 1), entry("c", 0, 0),
		{Key: keyOf("b"), Time: -api.MaxTime, Seq: api.MaxSeq}, {Key: keyOf("b"), Time: api.MaxTime, Row: []api.Value{{}}}, {Key: "", Time: 1, Seq: 1},
	} {
		want := append(slices.Clone(mem), e)
		slices.SortFunc(want, comparePlaces)
		if got, f := Put(api.Buffer{Limit: 9, Mem: mem}, e); f != api.OK || !sameBuffer(got, api.Buffer{Limit: 9, Mem: want}) {
			t.Errorf("%v: %v %d", e, got, f)
		}
		if got, f := Put(api.Buffer{Limit: 4, Mem: mem}, e); f != api.OK || !sameBuffer(got, api.Buffer{Limit: 4, Runs: [][]api.Entry{want}}) {
			t.Errorf("%v above the limit: %v %d", e, got, f)
		}
	}
}

func comparePlaces(a, b api.Entry) int {
	if a.Key != b.Key {
		return cmp.Compare(a.Key, b.Key)
	}
	if a.Time != b.Time {
		return cmp.Compare(a.Time, b.Time)
	}
	return cmp.Compare(a.Seq, b.Seq)
}

func TestPutErrors(t *testing.T) { // F2, P1
	full := api.Buffer{Limit: 2, Mem: list(entry("b", 0, 1)), Runs: [][]api.Entry{manyEntries(api.MaxRows - 1)}}
	fresh := entry("z", 0, 0)
	for name, c := range map[string]struct {
		b    api.Buffer
		e    api.Entry
		want api.Errno
	}{
		"a key of no row":       {sample(), api.Entry{Key: "x"}, api.ErrForm},
		"a wrong row":           {sample(), api.Entry{Key: fresh.Key, Row: []api.Value{{Kind: 7}}}, api.ErrForm},
		"a row of many cells":   {sample(), api.Entry{Key: fresh.Key, Row: make([]api.Value, api.MaxCells+1)}, api.ErrForm},
		"a time above":          {sample(), entry("z", api.MaxTime+1, 0), api.ErrForm},
		"a time below":          {sample(), entry("z", api.NoMark, 0), api.ErrForm},
		"a Seq above":           {sample(), entry("z", 0, api.MaxSeq+1), api.ErrForm},
		"a Seq below":           {sample(), entry("z", 0, -1), api.ErrForm},
		"the bounds":            {sample(), entry("z", -api.MaxTime, api.MaxSeq), api.OK},
		"twice, in memory":      {sample(), met(entry("b", 1, 2)), api.ErrTwice},
		"twice, in a run":       {sample(), entry("a", 3, 5), api.ErrTwice},
		"twice, the last":       {sample(), entry("c", -4, 4), api.ErrTwice},
		"twice, and another":    {sample(), api.Entry{Key: keyOf("c"), Time: -4, Seq: 4}, api.ErrTwice},
		"twice, and wrong":      {sample(), api.Entry{Key: keyOf("c"), Time: -4, Seq: 4, Row: []api.Value{{N: 1}}}, api.ErrForm},
		"full":                  {full, fresh, api.ErrMany},
		"full, and twice":       {full, entry("a", 9, 9), api.ErrTwice},
		"full, and wrong":       {full, api.Entry{Key: "x"}, api.ErrForm},
		"one ahead of full":     {api.Buffer{Limit: 1, Runs: full.Runs}, fresh, api.OK},
		"another key":           {sample(), entry("z", 3, 5), api.OK},
		"another time":          {sample(), entry("a", 4, 5), api.OK},
		"another Seq of a time": {sample(), entry("a", 3, 6), api.OK},
	} {
		got, e := Put(c.b, c.e)
		if e != c.want || e != api.OK && !reflect.DeepEqual(got, api.Buffer{}) || e == api.OK && Check(got) != api.OK {
			t.Errorf("%s: %d and must be %d", name, e, c.want)
		}
	}
}

func TestMeet(t *testing.T) { // F3
	for part, l := range [][]api.Entry{sample().Mem, sample().Runs[0], sample().Runs[1], sample().Runs[2]} {
		for i, e := range l {
			want := sample()
			if part == 0 {
				want.Mem[i].Met = true
			} else {
				want.Runs[part-1][i].Met = true
			}
			if got, f := Meet(sample(), e.Key, e.Time, e.Seq); f != api.OK || !sameBuffer(got, want) {
				t.Errorf("part %d, entry %d: %v %d", part, i, got, f)
			}
		}
	}
}

func TestTake(t *testing.T) { // F3: a run of one entry goes with it
	for part, l := range [][]api.Entry{sample().Mem, sample().Runs[0], sample().Runs[1], sample().Runs[2]} {
		for i, e := range l {
			want := sample()
			if part == 0 {
				want.Mem = slices.Delete(want.Mem, i, i+1)
			} else {
				want.Runs[part-1] = slices.Delete(want.Runs[part-1], i, i+1)
			}
			want.Runs = slices.DeleteFunc(want.Runs, func(run []api.Entry) bool { return len(run) == 0 })
			got, f := Take(sample(), e.Key, e.Time, e.Seq)
			if f != api.OK || !sameBuffer(got, want) || Check(got) != api.OK {
				t.Errorf("part %d, entry %d: %v %d", part, i, got, f)
			}
		}
	}
}

func TestNoSuchEntry(t *testing.T) { // F3, P1
	empty, _ := New(1)
	for _, b := range []api.Buffer{sample(), empty} {
		for _, p := range []place{
			{keyOf("a"), 1, 1}, {keyOf("a"), 2, 0}, {keyOf("b"), 1, 0}, {keyOf("d"), 1, 0}, {"", 1, 0}, {"no key", 1, 0}, {keyOf("a"), math.MaxInt, math.MinInt},
		} {
			meet, e := Meet(b, p.key, p.time, p.seq)
			take, f := Take(b, p.key, p.time, p.seq)
			if e != api.ErrNone || f != api.ErrNone || !reflect.DeepEqual(meet, api.Buffer{}) || !reflect.DeepEqual(take, api.Buffer{}) {
				t.Errorf("%v: %v %d, %v %d", p, meet, e, take, f)
			}
		}
	}
}

func TestScan(t *testing.T) { // F4
	all := sampleEntries()
	for _, c := range []struct {
		key      string
		from, to int
		want     []api.Entry
	}{
		{keyOf("a"), 1, 3, all[:5]}, {keyOf("a"), math.MinInt, math.MaxInt, all[:5]}, {keyOf("a"), 2, 3, all[1:5]}, {keyOf("a"), 3, 3, all[2:5]},
		{keyOf("a"), 1, 2, all[:2]}, {keyOf("a"), 0, 0, nil}, {keyOf("a"), 3, 1, nil}, {keyOf("a"), math.MaxInt, math.MinInt, nil}, {keyOf("a"), 4, 9, nil},
		{keyOf("b"), 1, 5, all[5:7]}, {keyOf("b"), 2, 5, all[6:7]}, {keyOf("b"), 1, 4, all[5:6]}, {keyOf("c"), -4, -4, all[7:]}, {keyOf("c"), -3, 9, nil}, {keyOf("c"), -9, -5, nil},
		{"", -9, 9, nil}, {"no key", -9, 9, nil}, {keyOf(""), -9, 9, nil},
	} {
		if got, e := Scan(sample(), c.key, c.from, c.to); e != api.OK || !sameList(got, c.want) {
			t.Errorf("%q from %d to %d: %v %d", c.key, c.from, c.to, got, e)
		}
	}
}

func TestAll(t *testing.T) { // F4
	if got, e := All(sample()); e != api.OK || !sameList(got, sampleEntries()) {
		t.Errorf("%v %d", got, e)
	}
	if got, e := All(api.Buffer{Limit: 1}); e != api.OK || len(got) != 0 {
		t.Errorf("of no entries: %v %d", got, e)
	}
}

func TestKeysRiseByteByByte(t *testing.T) { // F1, F4: as texts, not as what is in them
	var keys []string
	for _, row := range [][]api.Value{nil, {num(-1)}, {num(1)}, {num(1), num(0)}, {word("")}, {word("\x00")}, {word("a")}, {word("\xff")}} {
		key, _ := value.Key(row)
		keys = append(keys, key)
	}
	b, _ := New(2)
	for i := range keys {
		b, _ = Put(b, api.Entry{Key: keys[(i*3+5)%len(keys)], Time: -i, Seq: i})
	}
	all, e := All(b)
	if e != api.OK || len(all) != len(keys) {
		t.Fatalf("%v %d", all, e)
	}
	for i, a := range all {
		if a.Key != keys[i] {
			t.Errorf("at %d stands the key %q and must be %q", i, a.Key, keys[i])
		}
	}
}

func TestDrop(t *testing.T) { // F4: runs that have nothing any more go too
	s := sample()
	for to, want := range map[int]api.Buffer{
		math.MinInt: s,
		-5:          s,
		-4:          {Limit: 3, Mem: s.Mem, Runs: [][]api.Entry{s.Runs[0], s.Runs[1], s.Runs[2][:1]}},
		1:           {Limit: 3, Mem: s.Mem[:1], Runs: [][]api.Entry{s.Runs[0][1:], s.Runs[1], s.Runs[2][:1]}},
		2:           {Limit: 3, Mem: s.Mem[:1], Runs: [][]api.Entry{s.Runs[0][1:], s.Runs[1]}},
		3:           {Limit: 3, Runs: [][]api.Entry{s.Runs[0][2:]}},
		4:           {Limit: 3, Runs: [][]api.Entry{s.Runs[0][2:]}},
		5:           {Limit: 3},
		math.MaxInt: {Limit: 3},
	} {
		if got, e := Drop(sample(), to); e != api.OK || !sameBuffer(got, want) || Check(got) != api.OK {
			t.Errorf("to %d: %v %d and must be %v", to, got, e, want)
		}
	}
}

func TestPack(t *testing.T) { // F4
	one, _ := Put(api.Buffer{Limit: 5}, entry("a", 1, 1))
	for name, c := range map[string]struct{ b, want api.Buffer }{
		"sample":        {sample(), api.Buffer{Limit: 3, Runs: [][]api.Entry{sampleEntries()}}},
		"only memory":   {one, api.Buffer{Limit: 5, Runs: [][]api.Entry{list(entry("a", 1, 1))}}},
		"packed":        {api.Buffer{Limit: 3, Runs: [][]api.Entry{sampleEntries()}}, api.Buffer{Limit: 3, Runs: [][]api.Entry{sampleEntries()}}},
		"no entries":    {api.Buffer{Limit: 7}, api.Buffer{Limit: 7}},
		"a full buffer": {api.Buffer{Limit: 1, Mem: manyEntries(1), Runs: [][]api.Entry{manyEntries(api.MaxRows)[1:]}}, api.Buffer{Limit: 1, Runs: [][]api.Entry{manyEntries(api.MaxRows)}}},
	} {
		if got, e := Pack(c.b); e != api.OK || !sameBuffer(got, c.want) || Check(got) != api.OK {
			t.Errorf("%s: %v %d", name, got, e)
		}
	}
}

// plain is entries in one sorted list: what a buffer of whatever limit must hold.
type plain []api.Entry

func (l plain) find(e api.Entry) int {
	return slices.IndexFunc(l, func(x api.Entry) bool { return comparePlaces(x, e) == 0 })
}

// do is a drawn act on the plain list and on buffers of all limits.
func (d *draw) do(t *testing.T, l plain, buffers []api.Buffer) plain {
	e := api.Entry{Key: keyOf([]string{"a", "b", ""}[d.n(3)]), Time: d.n(7) - 3, Seq: d.n(5), Row: []api.Value{num(d.n(9))}, Met: d.n(3) == 0}
	act, to := d.n(9), d.n(12)-9
	want := api.OK
	at := l.find(e)
	switch {
	case act == 0 && at >= 0:
		l = slices.Clone(l)
		l[at].Met = true
	case act == 1 && at >= 0:
		l = slices.Delete(slices.Clone(l), at, at+1)
	case act < 2:
		want = api.ErrNone
	case act == 2:
		l = slices.DeleteFunc(slices.Clone(l), func(x api.Entry) bool { return x.Time <= to })
	case act > 3 && at >= 0:
		want = api.ErrTwice
	case act > 3:
		l = append(slices.Clone(l), e)
		slices.SortFunc(l, comparePlaces)
	}
	for i, b := range buffers {
		var next api.Buffer
		var f api.Errno
		switch act {
		case 0:
			next, f = Meet(b, e.Key, e.Time, e.Seq)
		case 1:
			next, f = Take(b, e.Key, e.Time, e.Seq)
		case 2:
			next, f = Drop(b, to)
		case 3:
			next = b
			if i%2 == 0 {
				next, f = Pack(b)
			}
		default:
			next, f = Put(b, e)
		}
		if f != want {
			t.Fatalf("act %d with %v on %v: %d and must be %d", act, e, b, f, want)
		}
		if f == api.OK {
			buffers[i] = next
		}
	}
	return l
}

func TestLimitChangesNothing(t *testing.T) { // F5: nor does what lies where; and memory keeps to it
	d := draw(5)
	for range 20 {
		var buffers []api.Buffer
		for _, limit := range []int{1, 1, 2, 2, 3, 5, 64, 64} {
			b, _ := New(limit)
			buffers = append(buffers, b)
		}
		var l plain
		for range 80 {
			l = d.do(t, l, buffers)
			from, to := d.n(7)-3, d.n(7)-3
			var part []api.Entry
			for _, e := range l {
				if e.Key == keyOf("a") && e.Time >= from && e.Time <= to {
					part = append(part, e)
				}
			}
			for _, b := range buffers {
				all, e := All(b)
				scan, f := Scan(b, keyOf("a"), from, to)
				if Check(b) != api.OK || len(b.Mem) > b.Limit || e != api.OK || f != api.OK || !sameList(all, l) || !sameList(scan, part) {
					t.Fatalf("%v has %v %d and must have %v; from %d to %d it has %v %d and must have %v", b, all, e, l, from, to, scan, f, part)
				}
			}
		}
	}
}

// spare is a list that has room behind it, and what lies there.
func spare[T any](l []T, behind T) (short, whole []T) {
	whole = append(slices.Clone(l), behind, behind)
	return whole[:len(l)], whole
}

func TestWhatIsHandedInIsOnlyRead(t *testing.T) { // P2
	b := sample()
	mem, memRoom := spare(b.Mem, entry("x", 7, 7))
	run, runRoom := spare(b.Runs[0], entry("x", 7, 7))
	runs, runsRoom := spare(b.Runs, list(entry("x", 8, 8)))
	row, rowRoom := spare([]api.Value{num(1)}, num(77))
	runs[0], b.Mem, b.Runs = run, mem, runs
	e := api.Entry{Key: keyOf("a"), Time: 0, Seq: 50, Row: row}
	tight := b
	tight.Limit = 2
	wasMem, wasRun, wasRow := deepList(memRoom), deepList(runRoom), slices.Clone(rowRoom)
	wasRuns := deep(api.Buffer{Runs: runsRoom}).Runs
	for _, c := range []api.Buffer{b, tight} {
		Check(c)
		Put(c, e)
		Meet(c, keyOf("b"), 1, 2)
		Meet(c, keyOf("a"), 1, 0)
		Take(c, keyOf("a"), 3, 7)
		Take(c, keyOf("a"), 1, 0)
		Scan(c, keyOf("a"), 0, 9)
		Drop(c, 2)
		Pack(c)
		All(c)
	}
	if !reflect.DeepEqual(memRoom, wasMem) || !reflect.DeepEqual(runRoom, wasRun) || !reflect.DeepEqual(runsRoom, wasRuns) || !reflect.DeepEqual(rowRoom, wasRow) {
		t.Errorf("what was handed in is not as it was: %v, %v, %v, %v", memRoom, runRoom, runsRoom, rowRoom)
	}
}

// spoil writes over each row and list of a buffer, the room behind them too,
// one by one: those behind must stay as they were.
func spoil(t *testing.T, name string, b api.Buffer) {
	t.Helper()
	lists := append([][]api.Entry{b.Mem}, b.Runs...)
	for i, l := range lists {
		was := deep(api.Buffer{Runs: lists[i+1:]}).Runs
		for j := range l {
			wasRows := deepList(l[j+1:])
			row := l[j].Row[:cap(l[j].Row)]
			for k := range row {
				row[k] = num(-99)
			}
			if !sameList(l[j+1:], wasRows) {
				t.Errorf("%s: rows of one list share memory", name)
			}
		}
		whole := l[:cap(l)]
		for j := range whole {
			whole[j] = api.Entry{Key: "spoilt"}
		}
		if !slices.EqualFunc(was, lists[i+1:], sameList) {
			t.Errorf("%s: lists share memory", name)
		}
	}
	whole := b.Runs[:cap(b.Runs)]
	for i := range whole {
		whole[i] = nil
	}
}

func TestAnswersAreNewMemory(t *testing.T) { // P2
	common := []api.Value{num(1), num(2)}
	b := sample()
	for i := range b.Mem {
		b.Mem[i].Row = common
	}
	for i := range b.Runs[0] {
		b.Runs[0][i].Row = common
	}
	tight := b
	tight.Limit = 2
	e := api.Entry{Key: keyOf("a"), Seq: 50, Row: common}
	was, wasRow := deep(b), slices.Clone(common)
	for name, call := range map[string]func() (api.Buffer, api.Errno){
		"Put":             func() (api.Buffer, api.Errno) { return Put(b, e) },
		"Put to a run":    func() (api.Buffer, api.Errno) { return Put(tight, e) },
		"Meet":            func() (api.Buffer, api.Errno) { return Meet(b, keyOf("a"), 1, 0) },
		"Take":            func() (api.Buffer, api.Errno) { return Take(b, keyOf("a"), 1, 0) },
		"Drop":            func() (api.Buffer, api.Errno) { return Drop(b, 1) },
		"Drop of nothing": func() (api.Buffer, api.Errno) { return Drop(b, -9) },
		"Pack":            func() (api.Buffer, api.Errno) { return Pack(b) },
		"Scan": func() (api.Buffer, api.Errno) {
			l, e := Scan(b, keyOf("a"), 1, 3)
			return api.Buffer{Mem: l}, e
		},
		"All": func() (api.Buffer, api.Errno) {
			l, e := All(b)
			return api.Buffer{Mem: l}, e
		},
	} {
		got, f := call()
		if f != api.OK || len(got.Mem)+len(got.Runs) == 0 {
			t.Errorf("%s: %d", name, f)
		}
		spoil(t, name, got)
		if !sameBuffer(b, was) || !slices.Equal(common, wasRow) {
			t.Fatalf("%s: what was handed in changes with the answer", name)
		}
	}
}

func TestAnswersHangOnWhatIsHandedIn(t *testing.T) { // P3
	put, _ := Put(sample(), entry("a", 2, 2))
	pack, _ := Pack(sample())
	for range 5 {
		Put(sample(), entry("z", 9, 9))
		Drop(sample(), 3)
		put2, e := Put(deep(sample()), entry("a", 2, 2))
		pack2, f := Pack(sample())
		if e != api.OK || f != api.OK || !sameBuffer(put, put2) || !sameBuffer(pack, pack2) {
			t.Fatal("the same was asked, and the answers are not the same")
		}
	}
}
