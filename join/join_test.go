package join

import (
	"math"
	"reflect"
	"slices"
	"strings"
	"testing"

	"meetwater/api"
	"meetwater/batch"
	"meetwater/buffer"
	"meetwater/change"
	"meetwater/plan"
)

func left(time int, cells ...api.Value) api.Event {
	return api.Event{Kind: api.RowEvent, Side: api.Left, Time: time, Row: cells}
}

func right(time int, cells ...api.Value) api.Event {
	return api.Event{Kind: api.RowEvent, Side: api.Right, Time: time, Row: cells}
}

func mark(side, time int) api.Event { return api.Event{Kind: api.MarkEvent, Side: side, Time: time} }

// entry is an entry of a row of Ints, whose key is the first.
func entry(time, seq int, ns ...int) api.Entry {
	key, _, _ := plan.KeyOf(planOf(api.Interval, api.Inner), api.Left, ints(ns...))
	return api.Entry{Key: key, Time: time, Seq: seq, Row: ints(ns...)}
}

func met(e api.Entry) api.Entry {
	e.Met = true
	return e
}

func run(l ...api.Entry) []api.Entry { return l }

// keeping is a join of planOf's limit that keeps these in one run a side.
func keeping(left, right []api.Entry, lmark, rmark, seq int) api.Join {
	s := api.Join{Left: api.Buffer{Limit: 1}, Right: api.Buffer{Limit: 1}, LMark: lmark, RMark: rmark, Seq: seq}
	if len(left) > 0 {
		s.Left.Runs = [][]api.Entry{left}
	}
	if len(right) > 0 {
		s.Right.Runs = [][]api.Entry{right}
	}
	return s
}

func TestStart(t *testing.T) { // G1
	for _, p := range allPlans() {
		for _, limit := range []int{1, 7, api.MaxLimit} {
			p.Limit = limit
			want := api.Join{Left: api.Buffer{Limit: limit}, Right: api.Buffer{Limit: limit}, LMark: -1<<40 - 1, RMark: -1<<40 - 1}
			if s, e := Start(p); e != api.OK || !sameJoin(s, want) || Check(p, s) != api.OK {
				t.Errorf("Start of %v is %v %d", p, s, e)
			}
		}
	}
}

// wrongPlans is a plan of each error that Check of a plan tells.
func wrongPlans() (l []api.Plan) {
	for _, spoil := range []func(p *api.Plan){
		func(p *api.Plan) { p.Kind = 4 },
		func(p *api.Plan) { p.Mode = 0 },
		func(p *api.Plan) { p.Limit = 0 },
		func(p *api.Plan) { p.Left = nil },
		func(p *api.Plan) { p.Right = []int{4, 2} },
		func(p *api.Plan) { p.Low, p.High = 2, 1 },
	} {
		p := planOf(api.Interval, api.FullOuter)
		spoil(&p)
		l = append(l, p)
	}
	return append(l, api.Plan{})
}

func TestWrongPlans(t *testing.T) { // G1, G2, G7, P1: the plan's error is told ahead of all others
	many := make([]api.Event, api.MaxEvents+1)
	for _, p := range wrongPlans() {
		want := plan.Check(p)
		s0, e0 := Start(p)
		e1 := Check(p, api.Join{})
		s2, told2, e2 := Step(p, api.Join{}, api.Event{})
		s3, told3, passed3, e3 := Play(p, many)
		if want == api.OK || e0 != want || e1 != want || e2 != want || e3 != want {
			t.Errorf("%v: %d %d %d %d and must be %d", p, e0, e1, e2, e3, want)
		}
		if !isNone(s0) || !isNone(s2) || !isNone(s3) || len(told2)+len(told3)+len(passed3) > 0 {
			t.Errorf("%v: something is told beside an error", p)
		}
	}
}

// sample is a right join of planOf(Interval, FullOuter).
func sample() api.Join {
	return api.Join{
		Left:  api.Buffer{Limit: 1, Mem: run(entry(1, 0, 7, 1)), Runs: [][]api.Entry{run(entry(0, 4, 7, 2), met(entry(3, 2, 8, 1)))}},
		Right: api.Buffer{Limit: 1, Mem: run(met(entry(2, 3, 8, 5))), Runs: [][]api.Entry{run(entry(-1, 5, 7, 0)), run(entry(9, 1, 9, 9))}},
		LMark: -5, RMark: -6, Seq: 6,
	}
}

func TestCheck(t *testing.T) { // G1
	p := planOf(api.Interval, api.FullOuter)
	for name, c := range map[string]struct {
		do   func(s *api.Join)
		want api.Errno
	}{
		"right":                          {func(s *api.Join) {}, api.OK},
		"no buffers":                     {func(s *api.Join) { *s = api.Join{} }, api.ErrRange},
		"no left buffer":                 {func(s *api.Join) { s.Left = api.Buffer{} }, api.ErrRange},
		"no right buffer":                {func(s *api.Join) { s.Right = api.Buffer{} }, api.ErrRange},
		"left memory above limit":        {func(s *api.Join) { s.Left.Mem = run(entry(1, 0, 7, 1), entry(2, 0, 7, 1)) }, api.ErrMany},
		"right memory above limit":       {func(s *api.Join) { s.Right.Mem = run(entry(1, 0, 7, 1), entry(2, 0, 7, 1)) }, api.ErrMany},
		"a run that falls, left":         {func(s *api.Join) { slices.Reverse(s.Left.Runs[0]) }, api.ErrForm},
		"a run without entries, right":   {func(s *api.Join) { s.Right.Runs[1] = nil }, api.ErrForm},
		"left's error is ahead":          {func(s *api.Join) { s.Left.Runs[0] = nil; s.Right.Limit = 0 }, api.ErrForm},
		"right's is behind, but ahead":   {func(s *api.Join) { s.Right.Runs[0] = nil; s.Seq = -1 }, api.ErrForm},
		"no marks":                       {func(s *api.Join) { s.LMark, s.RMark = api.NoMark, api.NoMark }, api.OK},
		"marks at MaxTime":               {func(s *api.Join) { s.LMark, s.RMark = api.MaxTime, api.MaxTime }, api.OK},
		"marks at -MaxTime":              {func(s *api.Join) { s.LMark, s.RMark = -api.MaxTime, -api.MaxTime }, api.OK},
		"left mark below NoMark":         {func(s *api.Join) { s.LMark = api.NoMark - 1 }, api.ErrRange},
		"right mark below NoMark":        {func(s *api.Join) { s.RMark = math.MinInt }, api.ErrRange},
		"left mark above MaxTime":        {func(s *api.Join) { s.LMark = math.MaxInt }, api.ErrRange},
		"right mark above MaxTime":       {func(s *api.Join) { s.RMark = api.MaxTime + 1 }, api.ErrRange},
		"Seq at MaxSeq":                  {func(s *api.Join) { s.Seq = api.MaxSeq }, api.OK},
		"Seq above MaxSeq":               {func(s *api.Join) { s.Seq = api.MaxSeq + 1 }, api.ErrRange},
		"Seq below 0":                    {func(s *api.Join) { s.Seq = -1 }, api.ErrRange},
		"ErrRange ahead of ErrForm":      {func(s *api.Join) { s.Seq, s.Left.Limit = -1, 2 }, api.ErrRange},
		"left has another limit":         {func(s *api.Join) { s.Left.Limit = 2 }, api.ErrForm},
		"right has another limit":        {func(s *api.Join) { s.Right.Limit = 2 }, api.ErrForm},
		"both have another limit":        {func(s *api.Join) { s.Left.Limit, s.Right.Limit = 2, 2 }, api.ErrForm},
		"the greatest Seq is Seq":        {func(s *api.Join) { s.Seq = 5 }, api.ErrForm},
		"an entry's Seq is above":        {func(s *api.Join) { s.Seq = 3 }, api.ErrForm},
		"left's Seq is Seq":              {func(s *api.Join) { s.Right.Runs = s.Right.Runs[1:]; s.Seq = 4 }, api.ErrForm},
		"left's Seq is below Seq":        {func(s *api.Join) { s.Right.Runs = s.Right.Runs[1:]; s.Seq = 5 }, api.OK},
		"one Seq on both sides":          {func(s *api.Join) { s.Left.Mem[0].Seq = 3 }, api.ErrForm},
		"one Seq on the left side":       {func(s *api.Join) { s.Left.Mem[0].Seq = 4 }, api.ErrForm},
		"one Seq on the right side":      {func(s *api.Join) { s.Right.Mem[0].Seq = 1 }, api.ErrForm},
		"a left row of one cell":         {func(s *api.Join) { s.Left.Mem[0].Row = ints(7) }, api.ErrForm},
		"a right row of three cells":     {func(s *api.Join) { s.Right.Runs[1][0].Row = ints(9, 9, 9) }, api.ErrForm},
		"a left cell of another type":    {func(s *api.Join) { s.Left.Mem[0].Row[1] = word("a") }, api.ErrForm},
		"a Null beside the key":          {func(s *api.Join) { s.Left.Mem[0].Row[1] = null() }, api.OK},
		"a row without a key":            {func(s *api.Join) { s.Left.Mem[0].Row[0] = null() }, api.ErrForm},
		"a right row without a key":      {func(s *api.Join) { s.Right.Mem[0].Row[0] = null() }, api.ErrForm},
		"no key, and so written":         {func(s *api.Join) { s.Left.Mem[0].Row[0] = null(); s.Left.Mem[0].Key = "\x00" }, api.ErrForm},
		"no key, and nothing written":    {func(s *api.Join) { s.Left.Mem[0].Row[0] = null(); s.Left.Mem[0].Key = "" }, api.ErrForm},
		"a left key of another row":      {func(s *api.Join) { s.Left.Mem[0].Row[0] = num(8) }, api.ErrForm},
		"a right key of another row":     {func(s *api.Join) { s.Right.Mem[0].Row[0] = num(7) }, api.ErrForm},
		"entries that are gone may wait": {func(s *api.Join) { s.LMark, s.RMark = 100, 100 }, api.OK},
	} {
		s := sample()
		c.do(&s)
		if got := Check(p, s); got != c.want {
			t.Errorf("%s: %d and must be %d", name, got, c.want)
		}
		if next, told, e := Step(p, s, api.Event{}); c.want != api.OK && (e != c.want || !isNone(next) || len(told) > 0) {
			t.Errorf("%s: Step is %v %v %d and must tell %d first", name, next, told, e, c.want)
		}
	}
}

func TestCheckAsksTheSidesColumns(t *testing.T) { // G1: a row comes in on its own side, and its key is that of its own columns
	p := planOf(api.Interval, api.Inner)
	p.Left, p.LKeys = []int{api.Text, api.Int}, []int{1}
	l := api.Entry{Key: entry(0, 0, 7, 1).Key, Seq: 0, Row: []api.Value{word("a"), num(7)}}
	r := entry(0, 1, 7, 1)
	if e := Check(p, keeping(run(l), run(r), 0, 0, 2)); e != api.OK {
		t.Errorf("each on its own side: %d", e)
	}
	if e := Check(p, keeping(run(r), nil, 0, 0, 2)); e != api.ErrForm {
		t.Errorf("a right row on the left side: %d", e)
	}
	if e := Check(p, keeping(nil, run(l), 0, 0, 2)); e != api.ErrForm {
		t.Errorf("a left row on the right side: %d", e)
	}
}

func TestEventErrors(t *testing.T) { // G2, G6, P1: each, and which is told first
	p := planOf(api.Interval, api.FullOuter)
	s := sample()
	bad, long := api.Value{Kind: api.Int, S: "a"}, word(strings.Repeat("x", api.MaxText+1))
	row := func(kind, side, time int, cells ...api.Value) api.Event {
		return api.Event{Kind: kind, Side: side, Time: time, Row: cells}
	}
	for _, c := range []struct {
		e    api.Event
		want api.Errno
	}{
		{api.Event{}, api.ErrKind},
		{row(0, 1, 0, ints(1, 1)...), api.ErrKind}, {row(3, 1, 0, ints(1, 1)...), api.ErrKind}, {row(-1, 2, 0), api.ErrKind},
		{row(1, 0, 0, ints(1, 1)...), api.ErrKind}, {row(1, 3, 0, ints(1, 1)...), api.ErrKind}, {row(2, 0, 0), api.ErrKind}, {row(2, 3, 0), api.ErrKind},
		{row(2, -1, api.MaxTime+1, num(1)), api.ErrKind}, {row(1, 3, api.MaxTime+1), api.ErrKind}, {row(9, 1, math.MinInt), api.ErrKind},
		{left(api.MaxTime+1, ints(1, 1)...), api.ErrRange}, {right(api.NoMark, ints(1, 1)...), api.ErrRange},
		{left(math.MaxInt), api.ErrRange}, {right(math.MinInt, bad), api.ErrRange},
		{mark(api.Left, api.MaxTime+1), api.ErrRange}, {mark(api.Right, api.NoMark), api.ErrRange}, {row(2, 1, math.MinInt, num(1)), api.ErrRange},
		{left(9), api.ErrMany}, {left(9, num(1)), api.ErrMany}, {right(9, ints(1, 1, 1)...), api.ErrMany}, {left(-99, bad), api.ErrMany},
		{left(9, num(1), api.Value{Kind: 4}), api.ErrKind}, {left(-99, bad, api.Value{Kind: 4}), api.ErrForm}, {right(9, long, bad), api.ErrMany},
		{left(9, num(1), word("a")), api.ErrType}, {right(-99, flag(1), num(1)), api.ErrType},
		{left(-5, ints(1, 1)...), api.ErrLate}, {left(-6, ints(1, 1)...), api.ErrLate}, {left(-api.MaxTime, ints(1, 1)...), api.ErrLate}, {left(-4, ints(1, 1)...), api.OK},
		{right(-6, ints(1, 1)...), api.ErrLate}, {right(-7, null(), null()), api.ErrLate}, {right(-5, ints(1, 1)...), api.OK},
		{left(api.MaxTime, ints(1, 1)...), api.OK}, {right(api.MaxTime, ints(1, 1)...), api.OK},
		{row(2, 1, 0, num(1)), api.ErrForm}, {row(2, 2, -99, null()), api.ErrForm}, {row(2, 2, 9, bad), api.ErrForm},
		{api.Event{Kind: 2, Side: 1, Time: 9, Row: []api.Value{}}, api.OK},
		{mark(api.Left, -6), api.ErrBack}, {mark(api.Left, -api.MaxTime), api.ErrBack}, {mark(api.Left, -5), api.OK}, {mark(api.Left, -4), api.OK},
		{mark(api.Right, -7), api.ErrBack}, {mark(api.Right, -6), api.OK}, {mark(api.Right, api.MaxTime), api.OK},
	} {
		next, told, e := Step(p, s, c.e)
		if e != c.want {
			t.Errorf("%v: %d and must be %d", c.e, e, c.want)
		}
		if e != api.OK && (!isNone(next) || len(told) > 0) {
			t.Errorf("%v: %v %v beside an error", c.e, next, told)
		}
	}
}

// full is as many entries as a buffer has at most.
func full() (l []api.Entry) {
	for i := range api.MaxRows {
		l = append(l, entry(i, i, 7, 1))
	}
	return l
}

func TestAsManyAsMayBe(t *testing.T) { // G2: Seq, and the side's own buffer
	p := planOf(api.Interval, api.FullOuter)
	none := api.NoMark
	for name, c := range map[string]struct {
		s    api.Join
		e    api.Event
		want api.Errno
	}{
		"the last Seq":               {keeping(nil, nil, none, none, api.MaxSeq-1), left(0, ints(1, 1)...), api.OK},
		"Seq is MaxSeq":              {keeping(nil, nil, none, none, api.MaxSeq), left(0, ints(1, 1)...), api.ErrMany},
		"so of a row without a key":  {keeping(nil, nil, none, none, api.MaxSeq), right(0, null(), num(1)), api.ErrMany},
		"a late row ahead of it":     {keeping(nil, nil, 3, none, api.MaxSeq), left(3, ints(1, 1)...), api.ErrLate},
		"a mark at MaxSeq":           {keeping(nil, nil, none, none, api.MaxSeq), mark(api.Left, 0), api.OK},
		"the last entry, left":       {keeping(full()[1:], nil, none, none, 9999), left(-50, ints(1, 1)...), api.OK},
		"a full side, left":          {keeping(full(), nil, none, none, 9999), left(-50, ints(1, 1)...), api.ErrMany},
		"a full side, no key":        {keeping(full(), nil, none, none, 9999), left(-50, null(), null()), api.ErrMany},
		"a full side, not kept":      {keeping(full(), nil, none, 9999, 9999), left(-50, ints(1, 1)...), api.ErrMany},
		"a full side, the other row": {keeping(full(), nil, none, none, 9999), right(-50, ints(1, 1)...), api.OK},
		"the last entry, right":      {keeping(nil, full()[1:], none, none, 9999), right(-50, ints(1, 1)...), api.OK},
		"a full side, right":         {keeping(nil, full(), none, none, 9999), right(-50, ints(1, 1)...), api.ErrMany},
		"full in memory and runs":    {api.Join{Left: api.Buffer{Limit: 1, Mem: full()[:1], Runs: [][]api.Entry{full()[1:9], full()[9:]}}, Right: api.Buffer{Limit: 1}, Seq: 9999}, left(1, ints(1, 1)...), api.ErrMany},
		"a mark of a full side":      {keeping(full(), nil, none, none, 9999), mark(api.Left, 9), api.OK},
	} {
		if got := Check(p, c.s); got != api.OK {
			t.Fatalf("%s: Check is %d", name, got)
		}
		next, told, e := Step(p, c.s, c.e)
		if e != c.want || e != api.OK && (!isNone(next) || len(told) > 0) || e == api.OK && Check(p, next) != api.OK {
			t.Errorf("%s: %d and must be %d", name, e, c.want)
		}
	}
}

func TestManyPartners(t *testing.T) { // G3: more changes than a list of them may have are told all the same
	p := planOf(api.Interval, api.LeftOuter)
	p.Low, p.High = -api.MaxTime, api.MaxTime
	s, told, e := Step(p, keeping(full(), nil, api.NoMark, api.NoMark, api.MaxRows), right(0, ints(7, 2)...))
	if e != api.OK || len(told) != 2*api.MaxRows || Check(p, s) != api.OK {
		t.Fatalf("%d changes, %d", len(told), e)
	}
	for i, entry := range s.Left.Runs[0] {
		if !entry.Met || told[2*i].Kind != api.Before || told[2*i+1].Kind != api.After {
			t.Fatalf("entry %d: %v, %v, %v", i, entry, told[2*i], told[2*i+1])
		}
	}
}

// script is events, and for each the changes that must come of it.
type script []struct {
	e    api.Event
	told []api.Change
}

// changes puts lists of them one behind the other.
func changes(l ...[]api.Change) []api.Change { return slices.Concat(l...) }

func (l script) play(t *testing.T, name string, p api.Plan) api.Join {
	t.Helper()
	s := mustStart(t, p)
	for i, c := range l {
		next, told, e := Step(p, s, c.e)
		if e != api.OK || !sameChanges(told, c.told) || Check(p, next) != api.OK {
			t.Fatalf("%s, event %d: %v %d and must be %v", name, i, told, e, c.told)
		}
		s = next
	}
	return s
}

func nulls(n int) []api.Value { return make([]api.Value, n) }

func leftAlone(ns ...int) []api.Value  { return append(ints(ns...), nulls(2)...) }
func rightAlone(ns ...int) []api.Value { return append(nulls(2), ints(ns...)...) }

func TestExample(t *testing.T) { // G3: examples 5 and 7 of the document
	script{
		{left(1, ints(7, 1)...), insert(leftAlone(7, 1))},
		{right(2, ints(7, 2)...), turn(leftAlone(7, 1), ints(7, 1, 7, 2))},
		{right(9, ints(7, 3)...), insert(rightAlone(7, 3))},
	}.play(t, "example", planOf(api.Interval, api.FullOuter))
}

func TestModes(t *testing.T) { // G3: who is taken back, of Interval and of Window
	for _, kind := range []int{api.Interval, api.Window} {
		for mode := api.Inner; mode <= api.FullOuter; mode++ {
			keepsLeft := mode == api.LeftOuter || mode == api.FullOuter
			keepsRight := mode == api.RightOuter || mode == api.FullOuter
			only := func(is bool, l []api.Change) []api.Change {
				if is {
					return l
				}
				return nil
			}
			either := func(is bool, alone, both []api.Value) []api.Change {
				if is {
					return turn(alone, both)
				}
				return insert(both)
			}
			s := script{
				{left(3, ints(7, 1)...), only(keepsLeft, insert(leftAlone(7, 1)))},
				{left(2, ints(7, 2)...), only(keepsLeft, insert(leftAlone(7, 2)))},
				{left(2, ints(7, 1)...), only(keepsLeft, insert(leftAlone(7, 1)))},
				{left(2, ints(8, 1)...), only(keepsLeft, insert(leftAlone(8, 1)))},
				{left(2, null(), num(1)), only(keepsLeft, insert(slices.Concat(nulls(1), ints(1), nulls(2))))},
				{right(2, null(), num(1)), only(keepsRight, insert(slices.Concat(nulls(3), ints(1))))},
				{right(4, ints(7, 5)...), changes(either(keepsLeft, leftAlone(7, 2), ints(7, 2, 7, 5)), either(keepsLeft, leftAlone(7, 1), ints(7, 1, 7, 5)), either(keepsLeft, leftAlone(7, 1), ints(7, 1, 7, 5)))},
				{right(2, ints(7, 6)...), changes(insert(ints(7, 2, 7, 6)), insert(ints(7, 1, 7, 6)), insert(ints(7, 1, 7, 6)))},
				{right(30, ints(7, 7)...), only(keepsRight, insert(rightAlone(7, 7)))},
				{left(31, ints(7, 3)...), either(keepsRight, rightAlone(7, 7), ints(7, 3, 7, 7))},
				{left(32, ints(7, 4)...), insert(ints(7, 4, 7, 7))},
			}.play(t, "modes", planOf(kind, mode))
			all, _ := buffer.All(s.Left)
			want := run(met(entry(2, 1, 7, 2)), met(entry(2, 2, 7, 1)), met(entry(3, 0, 7, 1)), met(entry(31, 9, 7, 3)), met(entry(32, 10, 7, 4)), entry(2, 3, 8, 1))
			if !sameEntries(all, want) {
				t.Errorf("kind %d, mode %d: %v is kept", kind, mode, all)
			}
			all, _ = buffer.All(s.Right)
			if want := run(met(entry(2, 7, 7, 6)), met(entry(4, 6, 7, 5)), met(entry(30, 8, 7, 7))); !sameEntries(all, want) {
				t.Errorf("kind %d, mode %d: %v is kept of the right side", kind, mode, all)
			}
		}
	}
}

func TestTimesThatMeet(t *testing.T) { // G3: the edges of spans and windows, whichever side comes first
	span := func(low, high int) api.Plan {
		p := planOf(api.Interval, api.Inner)
		p.Low, p.High = low, high
		return p
	}
	size := func(n int) api.Plan {
		p := planOf(api.Window, api.Inner)
		p.Size = n
		return p
	}
	const most = api.MaxTime
	for _, c := range []struct {
		p    api.Plan
		l, r int
		want bool
	}{
		{span(-5, 5), 0, -5, true}, {span(-5, 5), 0, -6, false}, {span(-5, 5), 0, 5, true}, {span(-5, 5), 0, 6, false},
		{span(2, 4), 10, 11, false}, {span(2, 4), 10, 12, true}, {span(2, 4), 10, 14, true}, {span(2, 4), 10, 15, false},
		{span(-4, -2), 10, 5, false}, {span(-4, -2), 10, 6, true}, {span(-4, -2), 10, 8, true}, {span(-4, -2), 10, 9, false},
		{span(0, 0), 3, 3, true}, {span(0, 0), 3, 4, false}, {span(0, 0), 3, 2, false},
		{span(-most, most), -most, 0, true}, {span(-most, most), -most, 1, false}, {span(-most, most), most, 0, true}, {span(-most, most), most, -1, false},
		{span(-most, most), most, most, true}, {span(1, most), most, most, false}, {span(-most, -1), -most, -most, false},
		{span(-9, -5), -most, -most, false}, {span(5, 9), most, most, false},
		{size(10), 0, 9, true}, {size(10), 0, 10, false}, {size(10), 9, 0, true}, {size(10), 10, 9, false}, {size(10), -1, 0, false}, {size(10), -10, -1, true}, {size(10), -11, -10, false},
		{size(1), 4, 4, true}, {size(1), 4, 5, false}, {size(most), 0, most - 1, true}, {size(most), 0, most, false}, {size(most), -most, -1, true}, {size(most), most, most, true}, {size(3), -most, -most, true},
	} {
		var want []api.Change
		if c.want {
			want = insert(ints(7, 1, 7, 2))
		}
		script{{left(c.l, ints(7, 1)...), nil}, {right(c.r, ints(7, 2)...), want}}.play(t, "left first", c.p)
		script{{right(c.r, ints(7, 2)...), nil}, {left(c.l, ints(7, 1)...), want}}.play(t, "right first", c.p)
	}
}

func TestKeysThatMeet(t *testing.T) { // G3: by all key columns, in the order of the plan
	p := planOf(api.Interval, api.Inner)
	p.Left, p.Right = []int{api.Text, api.Int}, []int{api.Int, api.Bool, api.Text}
	p.LKeys, p.RKeys = []int{1, 0}, []int{0, 2}
	script{
		{left(0, word("a"), num(1)), nil},
		{right(0, num(1), null(), word("b")), nil},
		{right(0, num(2), null(), word("a")), nil},
		{right(0, null(), flag(1), word("a")), nil},
		{right(0, num(1), flag(1), null()), nil},
		{right(0, num(1), null(), word("a")), insert([]api.Value{word("a"), num(1), num(1), null(), word("a")})},
		{left(0, word("a"), null()), nil},
		{left(0, null(), num(1)), nil},
		{left(0, word("b"), num(1)), insert([]api.Value{word("b"), num(1), num(1), null(), word("b")})},
	}.play(t, "keys", p)
}

func TestVersions(t *testing.T) { // G4
	for _, mode := range []int{api.Inner, api.LeftOuter} {
		outer := mode == api.LeftOuter
		var alone, alone8, noKey []api.Change
		first, first8 := insert(ints(7, 1, 7, 10)), insert(ints(8, 1, 8, 1))
		if outer {
			alone, alone8, noKey = insert(leftAlone(7, 1)), insert(leftAlone(8, 1)), insert(slices.Concat(nulls(1), ints(9), nulls(2)))
			first, first8 = turn(leftAlone(7, 1), ints(7, 1, 7, 10)), turn(leftAlone(8, 1), ints(8, 1, 8, 1))
		}
		s := script{
			{left(10, ints(7, 1)...), alone},
			{left(10, null(), num(9)), noKey},
			{right(11, ints(7, 11)...), nil},
			{right(10, ints(7, 10)...), first},
			{right(10, ints(7, 12)...), turn(ints(7, 1, 7, 10), ints(7, 1, 7, 12))},
			{right(9, ints(7, 13)...), nil},
			{right(5, null(), num(1)), nil},
			{left(9, ints(7, 2)...), insert(ints(7, 2, 7, 13))},
			{left(20, ints(7, 3)...), insert(ints(7, 3, 7, 11))},
			{left(10, ints(7, 4)...), insert(ints(7, 4, 7, 12))},
			{right(10, ints(7, 14)...), changes(turn(ints(7, 1, 7, 12), ints(7, 1, 7, 14)), turn(ints(7, 4, 7, 12), ints(7, 4, 7, 14)))},
			{right(12, ints(7, 15)...), turn(ints(7, 3, 7, 11), ints(7, 3, 7, 15))},
			{left(3, ints(8, 1)...), alone8},
			{right(-api.MaxTime, ints(8, 1)...), first8},
			{left(-api.MaxTime, ints(8, 2)...), insert(ints(8, 2, 8, 1))},
			{right(api.MaxTime, ints(8, 2)...), nil},
			{left(api.MaxTime, ints(8, 3)...), insert(ints(8, 3, 8, 2))},
			{right(api.MaxTime, ints(8, 4)...), turn(ints(8, 3, 8, 2), ints(8, 3, 8, 4))},
			{right(-api.MaxTime, ints(8, 5)...), changes(turn(ints(8, 2, 8, 1), ints(8, 2, 8, 5)), turn(ints(8, 1, 8, 1), ints(8, 1, 8, 5)))},
		}.play(t, "versions", planOf(api.Temporal, mode))
		all, _ := buffer.All(s.Left)
		for _, e := range all {
			if !e.Met {
				t.Errorf("mode %d: %v is not Met", mode, e)
			}
		}
		all, _ = buffer.All(s.Right)
		for _, e := range all {
			if e.Met {
				t.Errorf("mode %d: the version %v is Met", mode, e)
			}
		}
	}
}

func TestMetByVersions(t *testing.T) { // G4: those whom nothing happens to stay as they are
	p := planOf(api.Temporal, api.LeftOuter)
	s := keeping(run(entry(1, 0, 7, 1), entry(4, 1, 7, 2), entry(9, 2, 7, 3), entry(4, 3, 8, 4)), run(entry(6, 4, 7, 5)), api.NoMark, api.NoMark, 5)
	next, told, e := Step(p, s, right(3, ints(7, 6)...))
	if e != api.OK || !sameChanges(told, turn(leftAlone(7, 2), ints(7, 2, 7, 6))) {
		t.Errorf("%v %d", told, e)
	}
	if want := run(entry(1, 0, 7, 1), met(entry(4, 1, 7, 2)), entry(9, 2, 7, 3), entry(4, 3, 8, 4)); !sameEntries(next.Left.Runs[0], want) {
		t.Errorf("%v and must be %v", next.Left.Runs[0], want)
	}
	if next, _, _ := Step(p, s, right(7, ints(7, 6)...)); !next.Left.Runs[0][2].Met {
		t.Errorf("%v: whose version is another now is Met", next.Left.Runs[0])
	}
}

func TestKeptRows(t *testing.T) { // G5: who waits, and who need not
	none := api.NoMark
	for name, c := range map[string]struct {
		p            api.Plan
		lmark, rmark int
		e            api.Event
		want         bool
	}{
		"no marks":                        {planOf(api.Interval, api.Inner), none, none, left(-50, ints(7, 1)...), true},
		"the own mark alone":              {planOf(api.Interval, api.Inner), 50, none, left(51, ints(7, 1)...), true},
		"no key":                          {planOf(api.Interval, api.FullOuter), none, none, left(1, null(), num(1)), false},
		"left, at the span":               {planOf(api.Interval, api.Inner), none, 10, left(5, ints(7, 1)...), false},
		"left, behind it":                 {planOf(api.Interval, api.Inner), none, 10, left(6, ints(7, 1)...), true},
		"right, at the span":              {planOf(api.Interval, api.Inner), 10, none, right(5, ints(7, 1)...), false},
		"right, behind it":                {planOf(api.Interval, api.Inner), 10, none, right(6, ints(7, 1)...), true},
		"left, at the window":             {planOf(api.Window, api.Inner), none, 12, left(9, ints(7, 1)...), false},
		"left, in the window":             {planOf(api.Window, api.Inner), none, 12, left(10, ints(7, 1)...), true},
		"right, at the window's end":      {planOf(api.Window, api.Inner), 19, none, right(19, ints(7, 1)...), false},
		"right, in the next window":       {planOf(api.Window, api.Inner), 19, none, right(20, ints(7, 1)...), true},
		"left of Temporal, at the mark":   {planOf(api.Temporal, api.Inner), none, 12, left(12, ints(7, 1)...), false},
		"left of Temporal, behind it":     {planOf(api.Temporal, api.Inner), none, 12, left(13, ints(7, 1)...), true},
		"a version, far ahead":            {planOf(api.Temporal, api.Inner), api.MaxTime, none, right(-api.MaxTime, ints(7, 1)...), true},
		"the mark at MaxTime":             {planOf(api.Interval, api.Inner), none, api.MaxTime, left(api.MaxTime, ints(7, 1)...), false},
		"the mark at MaxTime, right":      {planOf(api.Window, api.Inner), api.MaxTime, none, right(api.MaxTime, ints(7, 1)...), false},
		"the mark at -MaxTime":            {planOf(api.Interval, api.Inner), none, -api.MaxTime, left(-api.MaxTime, ints(7, 1)...), true},
		"the mark at -MaxTime, windows":   {planOf(api.Window, api.Inner), -api.MaxTime, none, right(-api.MaxTime, ints(7, 1)...), true},
		"the mark at -MaxTime, versioned": {planOf(api.Temporal, api.Inner), none, -api.MaxTime, left(-api.MaxTime, ints(7, 1)...), false},
	} {
		s, _, e := Step(c.p, keeping(nil, nil, c.lmark, c.rmark, 3), c.e)
		want := keeping(nil, nil, c.lmark, c.rmark, 4)
		if mem := run(entry(c.e.Time, 3, 7, 1)); c.want && c.e.Side == api.Left {
			want.Left.Mem = mem
		} else if c.want {
			want.Right.Mem = mem
		}
		if e != api.OK || !sameJoin(s, want) {
			t.Errorf("%s: %v %d and must be %v", name, s, e, want)
		}
	}
}

func TestRowsThatAreGoneMeetAllTheSame(t *testing.T) { // G3, G5: a row that is not kept meets those who wait
	s := keeping(run(entry(3, 0, 7, 1)), nil, 8, api.NoMark, 1)
	next, told, e := Step(planOf(api.Interval, api.FullOuter), s, right(2, ints(7, 2)...))
	if want := keeping(run(met(entry(3, 0, 7, 1))), nil, 8, api.NoMark, 2); e != api.OK || !sameChanges(told, turn(leftAlone(7, 1), ints(7, 1, 7, 2))) || !sameJoin(next, want) {
		t.Errorf("%v %v %d", next, told, e)
	}
}

func TestRowsLieWhereTheyArePut(t *testing.T) { // G5: as the buffer's Put has it, whatever else happens there
	p := planOf(api.Interval, api.FullOuter)
	s := script{
		{left(1, ints(7, 1)...), insert(leftAlone(7, 1))},
		{left(0, ints(7, 2)...), insert(leftAlone(7, 2))},
		{left(0, ints(6, 3)...), insert(leftAlone(6, 3))},
		{right(1, ints(7, 4)...), changes(turn(leftAlone(7, 2), ints(7, 2, 7, 4)), turn(leftAlone(7, 1), ints(7, 1, 7, 4)))},
	}.play(t, "places", p)
	want := api.Join{
		Left:  api.Buffer{Limit: 1, Mem: run(entry(0, 2, 6, 3)), Runs: [][]api.Entry{run(met(entry(0, 1, 7, 2)), met(entry(1, 0, 7, 1)))}},
		Right: api.Buffer{Limit: 1, Mem: run(met(entry(1, 3, 7, 4)))},
		LMark: api.NoMark, RMark: api.NoMark, Seq: 4,
	}
	if !sameJoin(s, want) {
		t.Errorf("%v and must be %v", s, want)
	}
}

func TestMarks(t *testing.T) { // G6: what goes of both sides, whichever mark goes on
	none := api.NoMark
	some := func(times ...int) (l []api.Entry) {
		for i, time := range times {
			l = append(l, entry(time, i, 7, 1))
		}
		return l
	}
	rights := func(times ...int) (l []api.Entry) {
		for i, time := range times {
			l = append(l, entry(time, 10+i, 7, 1))
		}
		return l
	}
	for name, c := range map[string]struct {
		p            api.Plan
		lmark, rmark int
		e            api.Event
		left, right  []int // the times of whom stays
	}{
		"left's mark":                    {planOf(api.Interval, api.Inner), none, none, mark(api.Left, 9), []int{3, 4, 5, 9, 10, 11}, []int{5, 9, 10, 11}},
		"right's mark":                   {planOf(api.Interval, api.Inner), none, none, mark(api.Right, 9), []int{5, 9, 10, 11}, []int{3, 4, 5, 9, 10, 11}},
		"left's mark, and right's was":   {planOf(api.Interval, api.Inner), none, 8, mark(api.Left, 10), []int{4, 5, 9, 10, 11}, []int{9, 10, 11}},
		"the same mark again":            {planOf(api.Interval, api.Inner), 9, none, mark(api.Left, 9), []int{3, 4, 5, 9, 10, 11}, []int{5, 9, 10, 11}},
		"windows, in one":                {planOf(api.Window, api.Inner), none, none, mark(api.Left, 8), []int{3, 4, 5, 9, 10, 11}, []int{3, 4, 5, 9, 10, 11}},
		"windows, at its end":            {planOf(api.Window, api.Inner), none, none, mark(api.Left, 9), []int{3, 4, 5, 9, 10, 11}, []int{10, 11}},
		"windows, both":                  {planOf(api.Window, api.Inner), 9, none, mark(api.Right, 12), []int{10, 11}, []int{10, 11}},
		"all":                            {planOf(api.Interval, api.Inner), none, api.MaxTime, mark(api.Left, api.MaxTime), nil, nil},
		"nothing":                        {planOf(api.Interval, api.Inner), none, none, mark(api.Left, -api.MaxTime), []int{3, 4, 5, 9, 10, 11}, []int{3, 4, 5, 9, 10, 11}},
		"versions, left's mark alone":    {planOf(api.Temporal, api.Inner), none, none, mark(api.Left, 9), []int{3, 4, 5, 9, 10, 11}, []int{3, 4, 5, 9, 10, 11}},
		"versions, right's mark alone":   {planOf(api.Temporal, api.Inner), none, none, mark(api.Right, 9), []int{10, 11}, []int{3, 4, 5, 9, 10, 11}},
		"versions, left's mark is less":  {planOf(api.Temporal, api.Inner), none, 10, mark(api.Left, 5), []int{11}, []int{5, 9, 10, 11}},
		"versions, right's mark is less": {planOf(api.Temporal, api.LeftOuter), 10, none, mark(api.Right, 4), []int{5, 9, 10, 11}, []int{4, 5, 9, 10, 11}},
		"versions, one is enough":        {planOf(api.Temporal, api.Inner), 3, 3, mark(api.Right, 3), []int{4, 5, 9, 10, 11}, []int{3, 4, 5, 9, 10, 11}},
		"versions, none so far ahead":    {planOf(api.Temporal, api.Inner), 2, 1, mark(api.Right, 2), []int{3, 4, 5, 9, 10, 11}, []int{3, 4, 5, 9, 10, 11}},
		"versions, all but the last":     {planOf(api.Temporal, api.Inner), api.MaxTime, none, mark(api.Right, api.MaxTime), nil, []int{11}},
	} {
		s, told, e := Step(c.p, keeping(some(3, 4, 5, 9, 10, 11), rights(3, 4, 5, 9, 10, 11), c.lmark, c.rmark, 20), c.e)
		times := func(b api.Buffer) (l []int) {
			all, _ := buffer.All(b)
			for _, e := range all {
				l = append(l, e.Time)
			}
			return l
		}
		wantL, wantR := c.lmark, c.rmark
		if c.e.Side == api.Left {
			wantL = c.e.Time
		} else {
			wantR = c.e.Time
		}
		if e != api.OK || len(told) > 0 || s.Seq != 20 || s.LMark != wantL || s.RMark != wantR || Check(c.p, s) != api.OK {
			t.Errorf("%s: %v %v %d", name, s, told, e)
		}
		if l, r := times(s.Left), times(s.Right); !slices.Equal(l, c.left) || !slices.Equal(r, c.right) {
			t.Errorf("%s: %v and %v stay", name, l, r)
		}
	}
}

func TestVersionsThatAreTaken(t *testing.T) { // G6: of each key its own last one stays, in whatever run; runs without any go
	p := planOf(api.Temporal, api.Inner)
	s := api.Join{
		Left: api.Buffer{Limit: 1},
		Right: api.Buffer{Limit: 1, Mem: run(entry(4, 9, 7, 0)), Runs: [][]api.Entry{
			run(entry(4, 3, 7, 1), entry(2, 8, 8, 1)),
			run(entry(4, 5, 7, 2), entry(6, 0, 7, 3)),
			run(entry(3, 1, 7, 4), entry(4, 2, 7, 5)),
			run(entry(1, 7, 8, 2), entry(-9, 6, 9, 6)),
		}},
		LMark: api.NoMark, RMark: 4, Seq: 10,
	}
	want := api.Buffer{Limit: 1, Mem: run(entry(4, 9, 7, 0)), Runs: [][]api.Entry{run(entry(2, 8, 8, 1)), run(entry(6, 0, 7, 3)), run(entry(-9, 6, 9, 6))}}
	if next, _, e := Step(p, s, mark(api.Left, 5)); e != api.OK || !sameBuffer(next.Right, want) {
		t.Errorf("%v %d and must be %v", next.Right, e, want)
	}
}

func TestAsThePlainJoin(t *testing.T) { // G2 to G6: whatever comes, of all kinds and modes
	d := draw(11)
	for _, kind := range allPlans() {
		for range 60 {
			p := d.shape(kind)
			s, m := mustStart(t, p), newPlain(p)
			for _, e := range d.script(p, 60) {
				next, told, f := Step(p, s, e)
				wantTold, want := m.step(e)
				if f != want || !sameChanges(told, wantTold) {
					t.Fatalf("%v, %v: %v %d and must be %v %d", p, e, told, f, wantTold, want)
				}
				if f != api.OK {
					continue
				}
				s = next
				l, _ := buffer.All(s.Left)
				r, _ := buffer.All(s.Right)
				if !sameEntries(l, m.entries(api.Left)) || !sameEntries(r, m.entries(api.Right)) || s.Seq != m.seq || s.LMark != m.marks[api.Left] || s.RMark != m.marks[api.Right] || Check(p, s) != api.OK {
					t.Fatalf("%v, %v: %v is kept and must be %v", p, e, s, m)
				}
			}
		}
	}
}

func sameView(a, b []api.Count) bool {
	return slices.EqualFunc(a, b, func(x, y api.Count) bool { return x.N == y.N && slices.Equal(x.Row, y.Row) })
}

func TestChangesMakeTheJoin(t *testing.T) { // G8: at each moment
	d := draw(12)
	for _, kind := range allPlans() {
		for range 12 {
			p := d.shape(kind)
			s := mustStart(t, p)
			var view []api.Count
			var rows [3][]api.Stamped
			for _, e := range d.script(p, 70) {
				next, told, f := Step(p, s, e)
				if f != api.OK {
					continue
				}
				s = next
				if e.Kind == api.RowEvent {
					rows[e.Side] = append(rows[e.Side], api.Stamped{Time: e.Time, Row: e.Row})
				}
				made, _, f := change.Fold(view, told)
				want, g := batch.Join(p, rows[api.Left], rows[api.Right])
				if f != api.OK || g != api.OK || !sameView(made, want) {
					t.Fatalf("%v, %v: %v and must be %v (%d %d)", p, e, made, want, f, g)
				}
				view = made
				for _, c := range told {
					if p.Mode == api.Inner && p.Kind != api.Temporal && c.Kind != api.Insert {
						t.Fatalf("%v: %v takes something back", p, c)
					}
				}
			}
		}
	}
}

func TestInTheEndNothingIsKept(t *testing.T) { // G8: when both marks are MaxTime; of Temporal one version of each key
	d := draw(13)
	for _, kind := range allPlans() {
		for range 12 {
			p := d.shape(kind)
			sides := []int{api.Left, api.Right}
			if d.n(2) == 0 {
				slices.Reverse(sides)
			}
			s, _, _, e := Play(p, append(d.script(p, 80), mark(sides[0], api.MaxTime), mark(sides[1], api.MaxTime)))
			l, _ := buffer.All(s.Left)
			r, _ := buffer.All(s.Right)
			if e != api.OK || len(l) > 0 || p.Kind != api.Temporal && len(r) > 0 {
				t.Fatalf("%v keeps %v, %v in the end", p, l, r)
			}
			for i := range r[:max(len(r), 1)-1] {
				if r[i].Key == r[i+1].Key {
					t.Fatalf("%v keeps two versions of one key: %v", p, r)
				}
			}
		}
	}
}

func TestKeptRowsMeetSomebody(t *testing.T) { // G8: for each that is kept there is a row that may come, and meets it
	d := draw(14)
	for _, kind := range allPlans() {
		for range 12 {
			p := d.shape(kind)
			s, _, _, _ := Play(p, d.script(p, 80))
			all, _ := buffer.All(s.Left)
			for _, x := range all {
				if !metBySome(p, s, api.Right, s.RMark, x) {
					t.Fatalf("%v: %v is kept behind %d, and meets nobody", p, x, s.RMark)
				}
			}
			all, _ = buffer.All(s.Right)
			for _, x := range all {
				if p.Kind != api.Temporal && !metBySome(p, s, api.Left, s.LMark, x) {
					t.Fatalf("%v: %v is kept behind %d, and meets nobody", p, x, s.LMark)
				}
			}
		}
	}
}

// metBySome tells whether a row that may come on a side has a change with an
// entry's row in it.
func metBySome(p api.Plan, s api.Join, side, mark int, x api.Entry) bool {
	m := newPlain(p)
	key, _ := m.keyOf(3-side, x.Row)
	columns, places := p.Left, p.LKeys
	if side == api.Right {
		columns, places = p.Right, p.RKeys
	}
	row := make([]api.Value, len(columns))
	for i, at := range places {
		row[at] = key[i]
	}
	for time := max(mark+1, x.Time-40); time <= x.Time+40; time++ {
		_, told, _ := Step(p, s, api.Event{Kind: api.RowEvent, Side: side, Time: time, Row: row})
		for _, c := range told {
			if slices.Equal(c.Row, m.both(side, row, x.Row)) {
				return true
			}
		}
	}
	return false
}

func TestPlay(t *testing.T) { // G7: event by event, and who is passed over
	d := draw(15)
	for _, kind := range allPlans() {
		for range 10 {
			p := d.shape(kind)
			l := append(d.script(p, 50), api.Event{}, left(0), mark(api.Left, 99), mark(api.Left, 98), left(99, d.cell(p.Left[0])))
			s := mustStart(t, p)
			var told []api.Change
			var passed []int
			for i, e := range l {
				next, some, f := Step(p, s, e)
				if f != api.OK {
					passed = append(passed, i)
					continue
				}
				s = next
				told = append(told, some...)
			}
			s2, told2, passed2, e := Play(p, l)
			if e != api.OK || !sameJoin(s, s2) || !sameChanges(told, told2) || !slices.Equal(passed, passed2) || len(passed) < 4 {
				t.Fatalf("%v: %v %v %v %d and must be %v %v %v", p, s2, told2, passed2, e, s, told, passed)
			}
		}
	}
}

func TestPlayBounds(t *testing.T) { // G7, P1
	p := planOf(api.Window, api.FullOuter)
	for _, l := range [][]api.Event{nil, {}} {
		if s, told, passed, e := Play(p, l); e != api.OK || !sameJoin(s, mustStart(t, p)) || len(told)+len(passed) > 0 {
			t.Errorf("nothing is played: %v %v %v %d", s, told, passed, e)
		}
	}
	many := slices.Repeat([]api.Event{left(1, ints(7, 1)...)}, api.MaxEvents+1)
	if s, told, passed, e := Play(p, many); e != api.ErrMany || !isNone(s) || len(told)+len(passed) > 0 {
		t.Errorf("too many: %v %v %v %d", s, told, passed, e)
	}
	if s, told, passed, e := Play(p, many[1:]); e != api.OK || s.Seq != api.MaxEvents || len(told) != api.MaxEvents || len(passed) > 0 {
		t.Errorf("as many as may be: %d %d %v %d", s.Seq, len(told), passed, e)
	}
	if s, told, passed, e := Play(p, make([]api.Event, api.MaxEvents)); e != api.OK || !sameJoin(s, mustStart(t, p)) || len(told) > 0 || len(passed) != api.MaxEvents {
		t.Errorf("all wrong: %v %v %v %d", s, told, passed, e)
	}
}

// spare is a list that has room behind it, and what lies there.
func spare[T any](l []T, behind T) (short, whole []T) {
	whole = append(slices.Clone(l), behind, behind)
	return whole[:len(l)], whole
}

// memoryEvents is events that each do something to sample or its like.
func memoryEvents(row []api.Value) []api.Event {
	return []api.Event{left(1, row...), right(1, row...), left(3, null(), num(1)), mark(api.Left, 3), mark(api.Right, 4), mark(api.Left, -5)}
}

func TestWhatIsHandedInIsOnlyRead(t *testing.T) { // P2: the room behind lists too
	for _, p := range allPlans() {
		s := sample()
		mem, memRoom := spare(s.Left.Mem, entry(7, 7, 7, 7))
		part, partRoom := spare(s.Left.Runs[0], entry(7, 7, 7, 7))
		runs, runsRoom := spare(s.Right.Runs, run(entry(8, 8, 8, 8)))
		row, rowRoom := spare(ints(7, 3), num(77))
		kept, keptRoom := spare(s.Right.Mem[0].Row, num(78))
		events, eventsRoom := spare(memoryEvents(row), left(5, ints(7, 7)...))
		columns, columnsRoom := spare(p.Left, 99)
		s.Left.Mem, s.Left.Runs[0], s.Right.Runs, s.Right.Mem[0].Row, p.Left = mem, part, runs, kept, columns
		was := deep(s)
		wasMem, wasPart, wasRow, wasKept, wasColumns := deepEntries(memRoom), deepEntries(partRoom), slices.Clone(rowRoom), slices.Clone(keptRoom), slices.Clone(columnsRoom)
		wasRuns := deepBuffer(api.Buffer{Runs: runsRoom}).Runs
		Start(p)
		Check(p, s)
		Play(p, events)
		for _, e := range events {
			if _, _, f := Step(p, s, e); f != api.OK {
				t.Fatalf("%v: %d", e, f)
			}
		}
		if !sameJoin(s, was) || !sameEntries(memRoom, wasMem) || !sameEntries(partRoom, wasPart) || !slices.Equal(rowRoom, wasRow) || !slices.Equal(keptRoom, wasKept) || !slices.Equal(columnsRoom, wasColumns) || !slices.EqualFunc(runsRoom, wasRuns, sameEntries) {
			t.Fatal("what was handed in is not as it was")
		}
		if want := append(memoryEvents(row), left(5, ints(7, 7)...), left(5, ints(7, 7)...)); !reflect.DeepEqual(eventsRoom, want) {
			t.Fatal("the events are not as they were")
		}
	}
}

// pieces is all lists of an answer, each a call that writes over it and the
// room behind it.
func pieces(s api.Join, told []api.Change) (spoil []func()) {
	row := func(row []api.Value) {
		spoil = append(spoil, func() { fill(row, num(-99)) })
	}
	for _, b := range []api.Buffer{s.Left, s.Right} {
		for _, part := range append([][]api.Entry{b.Mem}, b.Runs...) {
			for _, e := range part {
				row(e.Row)
			}
			spoil = append(spoil, func() { fill(part, api.Entry{Key: "spoilt"}) })
		}
		spoil = append(spoil, func() { fill(b.Runs, run(api.Entry{Key: "spoilt"})) })
	}
	for _, c := range told {
		row(c.Row)
	}
	return append(spoil, func() { fill(told, api.Change{Kind: -9}) })
}

func fill[T any](l []T, with T) {
	l = l[:cap(l)]
	for i := range l {
		l[i] = with
	}
}

func TestAnswersAreNewMemory(t *testing.T) { // P2: no list of an answer is another one of it, or the caller's
	for _, p := range allPlans() {
		s := sample()
		common := ints(7, 1)
		for _, l := range [][]api.Entry{s.Left.Mem, s.Left.Runs[0][:1], s.Right.Runs[0]} {
			l[0].Row = common
		}
		was := deep(s)
		events := append(memoryEvents(common), left(1, common...), right(9, ints(9, 9)...))
		for at, e := range append(events, api.Event{}) {
			ask := func() (api.Join, []api.Change) {
				if at == len(events) {
					next, told, _, _ := Play(p, events)
					return next, told
				}
				next, told, f := Step(p, s, e)
				if f != api.OK {
					t.Fatalf("%v: %d", e, f)
				}
				return next, told
			}
			want, wantTold := ask()
			for i := range pieces(want, wantTold) {
				next, told := ask()
				pieces(next, told)[i]()
				if !sameJoin(s, was) || !slices.Equal(common, ints(7, 1)) {
					t.Fatalf("%v: piece %d of the answer is the caller's", e, i)
				}
				if n := differing(next, told, want, wantTold); n > 1 {
					t.Fatalf("%v: with piece %d %d others change", e, i, n)
				}
			}
		}
	}
}

// differing is how many lists of two answers that are made alike differ.
func differing(a api.Join, at []api.Change, b api.Join, bt []api.Change) (n int) {
	count := func(same bool) {
		if !same {
			n++
		}
	}
	for _, c := range [][2]api.Buffer{{a.Left, b.Left}, {a.Right, b.Right}} {
		part := func(x, y []api.Entry) {
			if len(x) > 0 && x[0].Key == "spoilt" {
				n++
				return
			}
			for i := range x {
				count(slices.Equal(x[i].Row, y[i].Row))
			}
		}
		part(c[0].Mem, c[1].Mem)
		if len(c[0].Runs) > 0 && len(c[0].Runs[0]) > 0 && c[0].Runs[0][0].Key == "spoilt" {
			n++
			continue
		}
		for i := range c[0].Runs {
			part(c[0].Runs[i], c[1].Runs[i])
		}
	}
	for i := range at {
		if at[i].Kind == -9 {
			return n + 1
		}
		count(slices.Equal(at[i].Row, bt[i].Row))
	}
	return n
}

func TestAnswersHangOnWhatIsHandedIn(t *testing.T) { // P3
	for _, p := range allPlans() {
		e := right(2, ints(7, 9)...)
		s, told, _ := Step(p, sample(), e)
		for range 5 {
			Step(p, sample(), left(8, ints(7, 7)...))
			Step(p, sample(), mark(api.Left, 20))
			s2, told2, f := Step(p, sample(), e)
			if f != api.OK || !sameJoin(s, s2) || !sameChanges(told, told2) {
				t.Fatal("the same was asked, and the answers are not the same")
			}
		}
	}
}
