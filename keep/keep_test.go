package keep

import (
	"encoding/binary"
	"fmt"
	"math"
	"slices"
	"strings"
	"testing"

	"meetwater/api"
	"meetwater/code"
	"meetwater/disk"
	"meetwater/engine"
	"meetwater/plan"
)

func num(n int) api.Value     { return api.Value{Kind: api.Int, N: n} }
func text(s string) api.Value { return api.Value{Kind: api.Text, S: s} }

func number(n int) string { return string(binary.BigEndian.AppendUint64(nil, uint64(n))) }

// shown tells two things apart, but not a list without elements from nil:
// numbers and texts are shown as hexadecimal digits, element by element.
func shown(x any) string { return fmt.Sprintf("%x", x) }

// draw gives numbers that are the same each time.
type draw uint64

func (d *draw) n(n int) int {
	*d = *d*6364136223846793005 + 1442695040888963407
	return int(uint64(*d) >> 33 % uint64(n))
}

// script is events of which a few are late, or of another type.
func (d *draw) script(n int) (l []api.Event) {
	now := -5
	for range n {
		v := api.Event{Kind: api.RowEvent, Side: 1 + d.n(2), Time: now + d.n(9) - 4, Row: []api.Value{num(d.n(3)), num(d.n(3))}}
		switch d.n(10) {
		case 0:
			v.Row[0] = api.Value{}
		case 1, 2:
			v.Kind, v.Row = api.MarkEvent, nil
		case 3:
			v.Row[1] = text("a")
		}
		l = append(l, v)
		now += d.n(3)
	}
	return l
}

// plans is a plan of each kind, and a grouped one.
func plans() []api.Plan {
	two := []int{api.Int, api.Int}
	p := api.Plan{Kind: api.Interval, Mode: api.FullOuter, Low: -5, High: 5, Limit: 2, Left: two, Right: two, LKeys: []int{0}, RKeys: []int{0}}
	w := p
	w.Kind, w.Mode, w.Low, w.High, w.Size = api.Window, api.LeftOuter, 0, 0, 10
	v := p
	v.Kind, v.Mode, v.Low, v.High, v.Limit = api.Temporal, api.LeftOuter, 0, 0, 1
	g := p
	g.Grouped, g.Group, g.Aggs = true, []int{0}, []api.Agg{{Fn: api.CountOf}, {Fn: api.SumOf, Col: 1}, {Fn: api.MinOf, Col: 3}}
	return []api.Plan{p, w, v, g}
}

// played is what events make of an engine.
func played(t *testing.T, p api.Plan, l []api.Event) api.Engine {
	t.Helper()
	x, _, _, e := engine.Play(p, l)
	if e != api.OK {
		t.Fatalf("Play: %d", e)
	}
	return x
}

func written(t *testing.T, p api.Plan, x api.Engine) string {
	t.Helper()
	b, e := code.Write(p, x)
	if e != api.OK {
		t.Fatalf("Write: %d", e)
	}
	return b
}

func frame(t *testing.T, body string) string {
	t.Helper()
	f, e := code.Frame(body)
	if e != api.OK {
		t.Fatalf("Frame: %d", e)
	}
	return f
}

// kept is a record by the chapter's words.
func kept(t *testing.T, p api.Plan, at, done int, x api.Engine) string {
	t.Helper()
	return frame(t, number(at)+number(done)+written(t, p, x))
}

func of(first, second api.Slot) api.Disk { return api.Disk{Slots: []api.Slot{first, second}} }

func safe(s string) api.Slot { return api.Slot{Safe: s} }

func empty() api.Disk { return of(safe(""), safe("")) }

func isNone(x api.Engine) bool { return shown(x) == shown(api.Engine{}) }

// mustLoad asks that Load tells an engine, what was done, and a number.
func mustLoad(t *testing.T, name string, p api.Plan, d api.Disk, x api.Engine, done, number int) {
	t.Helper()
	y, did, n, e := Load(p, d)
	if e != api.OK || did != done || n != number || shown(y) != shown(x) {
		t.Errorf("%s: %d done, number %d, %d, and must be %d, %d; %v and must be %v", name, did, n, e, done, number, y, x)
	}
}

func TestLoad(t *testing.T) { // L1
	d := draw(51)
	for _, p := range plans() {
		l := d.script(12)
		start, some, more := played(t, p, nil), played(t, p, l[:5]), played(t, p, l)
		one, two, three := kept(t, p, 1, 5, some), kept(t, p, 2, 12, more), kept(t, p, 3, 7, some)
		mustLoad(t, "nothing", p, empty(), start, 0, 0)
		mustLoad(t, "the first", p, of(safe(""), safe(one)), some, 5, 1)
		mustLoad(t, "the second alone", p, of(safe(two), safe("")), more, 12, 2)
		mustLoad(t, "two of them", p, of(safe(two), safe(one)), more, 12, 2)
		mustLoad(t, "the slot 1 has the greater number", p, of(safe(two), safe(three)), some, 7, 3)
		mustLoad(t, "what waits counts", p, of(safe(two), api.Slot{Safe: one, Wait: three, Has: true}), some, 7, 3)
		mustLoad(t, "what waits, and not what is safe", p, of(safe(two), api.Slot{Safe: three, Wait: one, Has: true}), more, 12, 2)
		mustLoad(t, "nothing waits where there was one", p, of(safe(two), api.Slot{Safe: three, Has: true}), more, 12, 2)
		mustLoad(t, "nothing was done", p, of(safe(kept(t, p, 2, 0, some)), safe("")), some, 0, 2)
		mustLoad(t, "all was done", p, of(safe(kept(t, p, 2, math.MaxInt, start)), safe("")), start, math.MaxInt, 2)
		mustLoad(t, "the greatest number", p, of(safe(two), safe(kept(t, p, math.MaxInt, 1, some))), some, 1, math.MaxInt)
	}
}

func TestNoRecords(t *testing.T) { // L1: what is no record is not there
	p := plans()[0]
	d := draw(52)
	x := played(t, p, d.script(9))
	b := written(t, p, x)
	right := frame(t, number(4)+number(9)+b)
	other := kept(t, p, 3, 2, played(t, p, nil))
	for name, s := range map[string]string{
		"an odd number":               kept(t, p, 5, 9, x),
		"the number 0":                kept(t, p, 0, 9, x),
		"an even number below 0":      kept(t, p, -2, 9, x),
		"the least number":            kept(t, p, math.MinInt, 9, x),
		"done below 0":                kept(t, p, 4, -1, x),
		"done far below 0":            kept(t, p, 4, math.MinInt, x),
		"no body":                     frame(t, ""),
		"a number alone":              frame(t, number(4)),
		"half a number":               frame(t, number(4)+"\x00\x00\x00\x09"),
		"two numbers alone":           frame(t, number(4)+number(9)),
		"an engine that ends":         frame(t, number(4)+number(9)+b[:len(b)-1]),
		"an engine, and more":         frame(t, number(4)+number(9)+b+"\x00"),
		"an engine alone":             frame(t, b),
		"no frame":                    number(4) + number(9) + b,
		"a frame that ends":           right[:len(right)-1],
		"a frame, and more":           right + "\x00",
		"a frame of another sum":      right[:len(right)-1] + string([]byte{right[len(right)-1] ^ 1}),
		"a frame with a byte turned":  strings.Replace(right, number(4), number(6), 1),
		"nothing":                     "",
		"something":                   "something",
		"another plan's engine":       kept(t, plans()[3], 4, 9, played(t, plans()[3], d.script(9))),
		"a number as text":            frame(t, "4 9 "+b),
		"the numbers behind":          frame(t, b+number(4)+number(9)),
		"four bytes a number":         frame(t, "\x00\x00\x00\x04\x00\x00\x00\x09"+b),
		"the first number in slot 1":  kept(t, p, 1, 9, x),
		"the lowest byte comes first": frame(t, "\x04\x00\x00\x00\x00\x00\x00\x01"+number(9)+b),
	} {
		mustLoad(t, name, p, of(safe(s), safe("")), played(t, p, nil), 0, 0)
		mustLoad(t, name+", and a record", p, of(safe(s), safe(other)), played(t, p, nil), 2, 3)
		mustLoad(t, name+", that waits", p, of(api.Slot{Safe: right, Wait: s, Has: true}, safe("")), played(t, p, nil), 0, 0)
	}
	mustLoad(t, "an even number in the slot 1", p, of(safe(""), safe(right)), played(t, p, nil), 0, 0)
	mustLoad(t, "as it must be", p, of(safe(right), safe(other)), x, 9, 4)
}

func TestErrors(t *testing.T) { // L1, L2, P1: each error, and which is told first
	p := plans()[3]
	start := played(t, p, nil)
	wrongPlan := p
	wrongPlan.Kind = 0
	wrongForm := []api.Slot{{}, {Wait: "x"}}
	for name, c := range map[string]struct {
		p    api.Plan
		d    api.Disk
		want api.Errno
	}{
		"the plan's":                 {wrongPlan, api.Disk{Slots: wrongForm}, api.ErrKind},
		"no slots":                   {p, api.Disk{}, api.ErrMany},
		"too many for a disk":        {p, api.Disk{Slots: slices.Repeat(wrongForm, 5)}, api.ErrMany},
		"the disk's form":            {p, api.Disk{Slots: wrongForm}, api.ErrForm},
		"the disk's form, one slot":  {p, api.Disk{Slots: wrongForm[1:]}, api.ErrForm},
		"the disk's form, all slots": {p, api.Disk{Slots: slices.Repeat(wrongForm, 4)}, api.ErrForm},
		"one slot":                   {p, api.Disk{Slots: make([]api.Slot, 1)}, api.ErrMany},
		"three slots":                {p, api.Disk{Slots: make([]api.Slot, 3)}, api.ErrMany},
	} {
		x, done, number, e := Load(c.p, c.d)
		if e != c.want || !isNone(x) || done != 0 || number != 0 {
			t.Errorf("Load, %s: %v %d %d %d and must be %d", name, x, done, number, e, c.want)
		}
		for _, steps := range []int{0, 2} {
			if d, e := Save(c.p, c.d, api.Engine{}, -1, steps); e != c.want || len(d.Slots) > 0 {
				t.Errorf("Save, %s: %v %d and must be %d", name, d, e, c.want)
			}
		}
	}
	_, big := sized(api.MaxBody + 1)
	wrongGroups, wrongView := start, start
	wrongGroups.Groups = make([]api.Group, api.MaxRows+1)
	wrongView.View = []api.Count{{N: 1, Row: []api.Value{text("a"), num(1), num(1), num(1)}}}
	last := of(safe(kept(t, p, api.MaxSeq, 0, start)), safe(""))
	for name, c := range map[string]struct {
		d    api.Disk
		x    api.Engine
		done int
		want api.Errno
	}{
		"done below 0":                       {empty(), start, -1, api.ErrRange},
		"done far below 0":                   {empty(), start, math.MinInt, api.ErrRange},
		"done below 0, and the engine":       {last, wrongGroups, -1, api.ErrRange},
		"the engine":                         {empty(), api.Engine{}, 0, api.ErrRange},
		"the engine's groups":                {empty(), wrongGroups, 0, api.ErrMany},
		"the engine's view":                  {last, wrongView, 0, api.ErrType},
		"another plan's engine":              {empty(), big, 0, api.ErrForm},
		"the number, and nothing else":       {last, start, 0, api.ErrMany},
		"all is right, and nothing was done": {empty(), start, 0, api.OK},
		"all is right, and very much":        {empty(), start, math.MaxInt, api.OK},
	} {
		for _, steps := range []int{-1, 0, 1, 2} {
			if d, e := Save(p, c.d, c.x, c.done, steps); e != c.want || (e != api.OK) != (len(d.Slots) == 0) {
				t.Errorf("Save of %d steps, %s: %v %d and must be %d", steps, name, d, e, c.want)
			}
		}
	}
}

// sized is an engine of n bytes: 72, and its view's rows.
func sized(n int) (api.Plan, api.Engine) {
	p := wide()
	e, _ := engine.Start(p)
	for rest := n - 72; rest > 0; {
		size := rest
		if size > 450 {
			size = min(450, rest-45)
		}
		cells := []api.Value{text(fmt.Sprintf("%05d", len(e.View)))}
		for more := size - 45; len(cells) < 8; more -= len(cells[len(cells)-1].S) {
			cells = append(cells, text(strings.Repeat("x", min(more, api.MaxText))))
		}
		e.View = append(e.View, api.Count{Row: cells, N: 1})
		rest -= size
	}
	return p, e
}

// wide is a plan whose rows are as long as may be.
func wide() api.Plan {
	four := []int{api.Text, api.Text, api.Text, api.Text}
	return api.Plan{Kind: api.Interval, Mode: api.Inner, Low: -200, High: 200, Limit: 1, Left: four, Right: four, LKeys: []int{0}, RKeys: []int{0}}
}

func TestTooMany(t *testing.T) { // L2: a frame's body has two numbers more than the engine's bytes
	for size, want := range map[int]api.Errno{api.MaxBody - 16: api.OK, api.MaxBody - 15: api.ErrMany, api.MaxBody: api.ErrMany, api.MaxBody + 1: api.ErrMany} {
		p, x := sized(size)
		for _, steps := range []int{0, 2} {
			d, e := Save(p, empty(), x, 1, steps)
			if e != want || (e != api.OK) != (len(d.Slots) == 0) {
				t.Errorf("%d bytes, %d steps: %d and must be %d", size, steps, e, want)
			}
			if e == api.OK && steps == 2 {
				mustLoad(t, "as many as may be", p, d, x, 1, 1)
			}
		}
	}
}

func TestLastNumbers(t *testing.T) { // L2: MaxSeq is the last one
	p := plans()[0]
	x := played(t, p, nil)
	d, e := Save(p, of(safe(""), safe(kept(t, p, api.MaxSeq-1, 3, x))), x, 4, 2)
	if e != api.OK {
		t.Fatalf("the last one: %d", e)
	}
	mustLoad(t, "the last one", p, d, x, 4, api.MaxSeq)
	for _, last := range []int{api.MaxSeq, api.MaxSeq + 2, math.MaxInt - 1} {
		if d, e := Save(p, of(safe(kept(t, p, last, 3, x)), safe("")), x, 4, 2); e != api.ErrMany || len(d.Slots) > 0 {
			t.Errorf("behind %d: %v %d", last, d, e)
		}
	}
	if d, e := Save(p, of(safe(""), safe(kept(t, p, math.MaxInt, 3, x))), x, 4, 2); e != api.ErrMany || len(d.Slots) > 0 {
		t.Errorf("behind the greatest number: %v %d", d, e)
	}
}

func TestSave(t *testing.T) { // L2: what is written where, step by step
	d := draw(53)
	for _, p := range plans() {
		l := d.script(12)
		some, more := played(t, p, l[:5]), played(t, p, l)
		one, two, three := kept(t, p, 1, 5, some), kept(t, p, 2, 12, more), kept(t, p, 3, 12, more)
		for name, c := range map[string]struct {
			d          api.Disk
			done       int
			x          api.Engine
			slot       int
			frame      string
			otherSlots api.Slot
		}{
			"the first":                {empty(), 5, some, 1, one, safe("")},
			"the second":               {of(safe(""), safe(one)), 12, more, 0, two, safe(one)},
			"the third":                {of(safe(two), safe(one)), 12, more, 1, three, safe(two)},
			"behind one that waits":    {of(safe("old"), api.Slot{Safe: "x", Wait: one, Has: true}), 12, more, 0, two, api.Slot{Safe: "x", Wait: one, Has: true}},
			"over one that waits":      {of(api.Slot{Safe: "x", Wait: "y", Has: true}, safe(one)), 12, more, 0, two, safe(one)},
			"where there is no record": {of(safe("x"), safe("y")), 5, some, 1, one, safe("x")},
		} {
			for _, steps := range []int{math.MinInt, -1, 0, 1, 2, 3, math.MaxInt} {
				want := slices.Clone(c.d.Slots)
				want[1-c.slot] = c.otherSlots
				if steps >= 1 {
					want[c.slot].Wait, want[c.slot].Has = c.frame, true
				}
				if steps >= 2 {
					want[c.slot] = safe(c.frame)
				}
				if n, e := Save(p, c.d, c.x, c.done, steps); e != api.OK || !slices.Equal(n.Slots, want) {
					t.Fatalf("%s, %d steps: %v %d and must be %v", name, steps, n, e, want)
				}
			}
		}
	}
}

func TestManySaves(t *testing.T) { // L1, L2: the numbers rise, and what is loaded was saved last
	p := plans()[0]
	r := draw(54)
	l := r.script(30)
	d := empty()
	for n := 1; n <= 30; n++ {
		x := played(t, p, l[:n])
		next, e := Save(p, d, x, n, 2)
		if e != api.OK {
			t.Fatalf("save %d: %d", n, e)
		}
		d = next
		mustLoad(t, fmt.Sprint("save ", n), p, d, x, n, n)
	}
}

func TestWhereverThePowerGoes(t *testing.T) { // L4: of all steps, and of all that the disk may keep
	r := draw(55)
	for _, p := range plans() {
		l := r.script(8)
		d := empty()
		last, was := played(t, p, nil), 0
		for n := 1; n <= 3; n++ {
			x := played(t, p, l[:2*n])
			size := len(kept(t, p, n, 10*n, x))
			for steps := -1; steps <= 3; steps++ {
				next, e := Save(p, d, x, 10*n, steps)
				if e != api.OK {
					t.Fatalf("Save: %d", e)
				}
				for cut := -1; cut <= size+1; cut++ {
					cuts := []int{-1, -1}
					cuts[n%2] = cut
					behind, e := disk.Crash(next, cuts)
					if e != api.OK {
						t.Fatalf("Crash: %d", e)
					}
					if steps >= 2 || steps == 1 && cut >= size {
						mustLoad(t, fmt.Sprint(steps, " steps, ", cut, " bytes"), p, behind, x, 10*n, n)
					} else {
						mustLoad(t, fmt.Sprint(steps, " steps, ", cut, " bytes"), p, behind, last, was, n-1)
					}
				}
			}
			d, _ = Save(p, d, x, 10*n, 2)
			last, was = x, 10*n
		}
	}
}

func TestOneStepDone(t *testing.T) { // L1, L2, L4: a crash that keeps 2 bytes: what was saved ahead is loaded, and goes on
	p := plans()[0]
	r := draw(56)
	l := r.script(9)
	first, second := played(t, p, l[:4]), played(t, p, l)
	d, _ := Save(p, empty(), first, 4, 2)
	begun, _ := Save(p, d, second, 9, 1)
	mustLoad(t, "what waits", p, begun, second, 9, 2)
	behind, _ := disk.Crash(begun, []int{2, 2})
	mustLoad(t, "two bytes", p, behind, first, 4, 1)
	again, e := Save(p, behind, second, 9, 2)
	if e != api.OK {
		t.Fatalf("again: %d", e)
	}
	mustLoad(t, "again", p, again, second, 9, 2)
	lost, _ := disk.Crash(of(safe(""), api.Slot{Wait: kept(t, p, 1, 4, first), Has: true}), []int{0, 2})
	mustLoad(t, "nothing was ever synced", p, lost, played(t, p, nil), 0, 0)
}

func act(kind int) api.Act { return api.Act{Kind: kind} }

func crash(steps int, cuts ...int) api.Act {
	return api.Act{Kind: api.ActCrash, Steps: steps, Cuts: cuts}
}

func acts(n, kind int) []api.Act { return slices.Repeat([]api.Act{act(kind)}, n) }

// mustRun asks that Run tells the engine of Play, and how many were stepped.
func mustRun(t *testing.T, name string, p api.Plan, l []api.Event, a []api.Act, stepped int) {
	t.Helper()
	x, n, e := Run(p, l, a)
	if e != api.OK || n != stepped || shown(x) != shown(played(t, p, l)) {
		t.Errorf("%s: %d stepped, %d, and must be %d; %v and must be %v", name, n, e, stepped, x, played(t, p, l))
	}
}

func TestRun(t *testing.T) { // L3: what each act does, told by how many are stepped
	r := draw(57)
	all := 1 << 20
	for _, p := range plans() {
		l := r.script(10)
		four := acts(4, api.ActNext)
		mustRun(t, "no acts", p, l, nil, 10)
		mustRun(t, "no acts, not nil", p, l, []api.Act{}, 10)
		mustRun(t, "no events", p, nil, slices.Concat(four, acts(1, api.ActSave), []api.Act{crash(2)}, four), 0)
		mustRun(t, "next", p, l, four, 10)
		mustRun(t, "more than there are", p, l, acts(14, api.ActNext), 10)
		mustRun(t, "saved, and nothing goes", p, l, slices.Concat(four, acts(3, api.ActSave), four), 10)
		mustRun(t, "the power goes, nothing was saved", p, l, slices.Concat(four, []api.Act{crash(0)}), 14)
		mustRun(t, "steps below 0", p, l, slices.Concat(four, []api.Act{crash(-3, all, all)}), 14)
		mustRun(t, "written, all kept", p, l, slices.Concat(four, []api.Act{crash(1, all, all)}), 10)
		mustRun(t, "written, kept in the other slot", p, l, slices.Concat(four, []api.Act{crash(1, all)}), 14)
		mustRun(t, "written, nothing kept", p, l, slices.Concat(four, []api.Act{crash(1, -1, -1)}), 14)
		mustRun(t, "written, without cuts", p, l, slices.Concat(four, []api.Act{crash(1)}), 14)
		mustRun(t, "synced", p, l, slices.Concat(four, []api.Act{crash(2, -1, -1)}), 10)
		mustRun(t, "more steps than there are", p, l, slices.Concat(four, []api.Act{crash(9)}), 10)
		mustRun(t, "saved, and the power goes", p, l, slices.Concat(four, acts(1, api.ActSave), four, []api.Act{crash(0)}), 14)
		mustRun(t, "saved, and a save begun", p, l, slices.Concat(four, acts(1, api.ActSave), four, []api.Act{crash(1, 2, 2)}), 14)
		mustRun(t, "saved, and a save in the slot 0", p, l, slices.Concat(four, acts(1, api.ActSave), four, []api.Act{crash(1, all)}), 10)
		mustRun(t, "saved twice", p, l, slices.Concat(four, acts(2, api.ActSave), four, []api.Act{crash(1, 2, 2)}), 14)
		mustRun(t, "at the end, again and again", p, l, slices.Concat(acts(10, api.ActNext), []api.Act{crash(0)}, acts(10, api.ActNext), []api.Act{crash(0)}), 30)
		mustRun(t, "at once", p, l, []api.Act{crash(2), crash(1, all, all), crash(0)}, 10)
		mustRun(t, "an act's other fields", p, l, []api.Act{{Kind: api.ActSave, Steps: -1, Cuts: []int{0, 0}}, {Kind: api.ActNext, Steps: 9, Cuts: []int{1}}, crash(0)}, 11)
	}
}

// stepsOf is how many events are stepped, told without a disk: what is saved is
// how many were done, and when a crash keeps all of a frame the save counts.
func stepsOf(t *testing.T, p api.Plan, l []api.Event, a []api.Act) int {
	now, saved, saves, stepped := 0, 0, 0, 0
	for _, x := range a {
		switch x.Kind {
		case api.ActNext:
			if now < len(l) {
				now++
				stepped++
			}
		case api.ActSave:
			saved = now
			saves++
		case api.ActCrash:
			cut, slot := 0, (saves+1)%2
			if slot < len(x.Cuts) {
				cut = x.Cuts[slot]
			}
			size := 24 + len(written(t, p, played(t, p, l[:now])))
			if x.Steps >= 2 || x.Steps == 1 && cut >= size {
				saved = now
				saves++
			}
			now = saved
		}
	}
	return stepped + len(l) - now
}

func TestRunsAreDrawn(t *testing.T) { // L3, L4: however often the power goes, the engine is that of Play
	r := draw(58)
	for _, p := range plans() {
		for range 40 {
			l := r.script(r.n(25))
			var a []api.Act
			for range r.n(40) {
				x := api.Act{Kind: api.ActNext, Steps: r.n(5) - 1}
				if r.n(2) == 0 {
					x.Kind = 2 + r.n(2)
				}
				for range r.n(4) {
					x.Cuts = append(x.Cuts, []int{-1, 0, 8, 100, 1000, 10000}[r.n(6)])
				}
				a = append(a, x)
			}
			mustRun(t, fmt.Sprint(a), p, l, a, stepsOf(t, p, l, a))
		}
	}
}

func TestRunErrors(t *testing.T) { // L3, P1: each error, and which is told first
	p := plans()[3]
	wrong := p
	wrong.Limit = 0
	many := acts(api.MaxEvents+1, api.ActNext)
	events := func(n int) []api.Event { return make([]api.Event, n) }
	for name, c := range map[string]struct {
		p    api.Plan
		l    []api.Event
		a    []api.Act
		want api.Errno
	}{
		"the plan's":                  {wrong, events(api.MaxEvents + 1), acts(1, 0), plan.Check(wrong)},
		"too many events":             {p, events(api.MaxEvents + 1), nil, api.ErrMany},
		"too many acts":               {p, nil, many, api.ErrMany},
		"too many events, and a kind": {p, events(api.MaxEvents + 1), acts(1, 0), api.ErrMany},
		"too many acts, and a kind":   {p, nil, append(acts(1, 7), many...), api.ErrMany},
		"the kind 0":                  {p, nil, acts(1, 0), api.ErrKind},
		"the kind 4":                  {p, events(3), append(acts(3, api.ActSave), act(api.ActCrash+1)), api.ErrKind},
		"the kind -1":                 {p, nil, acts(1, -1), api.ErrKind},
	} {
		if x, n, e := Run(c.p, c.l, c.a); e != c.want || e == api.OK || n != 0 || !isNone(x) {
			t.Errorf("%s: %v %d %d and must be %d", name, x, n, e, c.want)
		}
	}
	if x, n, e := Run(p, events(api.MaxEvents), many[1:]); e != api.OK || n != api.MaxEvents || shown(x) != shown(played(t, p, nil)) {
		t.Errorf("as many as may be, all passed over: %d stepped, %d", n, e)
	}
}

func TestRunOfTooMuch(t *testing.T) { // L3: where Save says ErrMany nothing is saved
	p := wide()
	long := func(kind, i int) []api.Value {
		cells := []api.Value{text("k")}
		for c := range 3 {
			cells = append(cells, text(fmt.Sprintf("%064d", 1000*(10*kind+c)+i)))
		}
		return cells
	}
	var l []api.Event
	for i := range 55 {
		l = append(l, api.Event{Kind: api.RowEvent, Side: api.Left, Time: i, Row: long(1, i)}, api.Event{Kind: api.RowEvent, Side: api.Right, Time: i, Row: long(2, i)})
	}
	whole := played(t, p, l)
	if _, e := code.Write(p, whole); e != api.ErrMany {
		t.Fatalf("the engine is not as great as it must be: %d", e)
	}
	a := slices.Concat(acts(20, api.ActNext), acts(1, api.ActSave), acts(90, api.ActNext), acts(1, api.ActSave), []api.Act{crash(2, 1<<30, 1<<30)})
	x, n, e := Run(p, l, a)
	if e != api.OK || n != 110+90 || shown(x) != shown(whole) {
		t.Errorf("%d stepped, %d", n, e)
	}
}

func TestMemory(t *testing.T) { // P2, P3: what is handed in is only read, the room behind it too, and an answer is new
	p := plans()[0]
	r := draw(59)
	l := r.script(12)
	x := played(t, p, l)
	room := []api.Slot{safe(kept(t, p, 2, 12, x)), safe(kept(t, p, 1, 3, played(t, p, l[:3]))), safe("behind")}
	was, wasX, wasL := slices.Clone(room), shown(x), shown(l)
	d := api.Disk{Slots: room[:2]}
	for steps := range 3 {
		first, _ := Save(p, d, x, 12, steps)
		want := slices.Clone(first.Slots)
		all := first.Slots[:cap(first.Slots)]
		for i := range all {
			all[i] = safe("spoilt")
		}
		again, e := Save(p, d, x, 12, steps)
		if e != api.OK || !slices.Equal(again.Slots, want) || !slices.Equal(room, was) || shown(x) != wasX {
			t.Errorf("%d steps: %d", steps, e)
		}
	}
	for range 2 {
		y, _, _, e := Load(p, d)
		if e != api.OK || shown(y) != wasX || !slices.Equal(room, was) {
			t.Fatalf("Load: %d", e)
		}
		y.View[0].Row[0], y.View[0].N = num(-99), -99
	}
	cuts := []int{1, 1, 77}
	a := []api.Act{act(api.ActNext), act(api.ActSave), crash(1, cuts[:2]...), act(api.ActNext)}
	wasA := shown(a)
	for range 2 {
		y, n, e := Run(p, l, a)
		if e != api.OK || n != 12 || shown(y) != wasX || shown(l) != wasL || shown(a) != wasA || cuts[2] != 77 {
			t.Fatalf("Run: %d %d", n, e)
		}
		for _, c := range y.View {
			clear(c.Row)
		}
		for _, b := range []api.Buffer{y.Join.Left, y.Join.Right} {
			for _, run := range append(b.Runs, b.Mem) {
				for _, entry := range run {
					clear(entry.Row)
				}
			}
		}
	}
}
