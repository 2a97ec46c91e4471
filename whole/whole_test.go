package whole

import (
	"fmt"
	"maps"
	"slices"
	"strings"
	"testing"

	"meetwater/api"
	"meetwater/batch"
	"meetwater/buffer"
	"meetwater/code"
	"meetwater/desk"
	"meetwater/engine"
	"meetwater/keep"
	"meetwater/plan"
	"meetwater/value"
)

func TestKeysStandInTheOrderOfRows(t *testing.T) { // A5, M5: and the key tells the row, as its text does
	d := draw(71)
	var rows [][]api.Value
	for range 700 {
		rows = append(rows, d.row())
	}
	keys, texts := make([]string, len(rows)), make([]string, len(rows))
	for i, r := range rows {
		keys[i], _ = value.Key(r)
		texts[i] = rowShown(t, r)
	}
	for i := range rows {
		for j := range rows {
			order := value.Rows(rows[i], rows[j])
			if order != strings.Compare(keys[i], keys[j]) || (order == 0) != (texts[i] == texts[j]) || order != -value.Rows(rows[j], rows[i]) {
				t.Fatalf("%s and %s: %d", texts[i], texts[j], order)
			}
		}
	}
}

// meets tells whether a left row and a right one of one key are joined.
func meets(t *testing.T, p api.Plan, left, right int) bool {
	t.Helper()
	p.Mode, p.Grouped, p.Group, p.Aggs = api.Inner, false, nil, nil
	v, e := batch.Join(p, []api.Stamped{{Time: left, Row: []api.Value{text("a"), num(1)}}}, []api.Stamped{{Time: right, Row: []api.Value{num(1), flag(1), text("a")}}})
	if e != api.OK {
		t.Fatalf("%v: %d", p, e)
	}
	return len(v) > 0
}

// metBehind tells whether somebody who comes behind the other side's mark meets
// a row of this side; spans and windows are not greater than 20.
func metBehind(t *testing.T, p api.Plan, side, time, mark int) bool {
	t.Helper()
	for other := max(mark+1, -api.MaxTime, time-20); other <= min(time+20, api.MaxTime); other++ {
		if side == api.Left && meets(t, p, time, other) || side == api.Right && meets(t, p, other, time) {
			return true
		}
	}
	return false
}

func TestWhoComesBehindAMarkMeetsNobodyWhoIsGone(t *testing.T) { // B5, D4: and the next one that is not gone may be met
	d := draw(72)
	for _, p := range plans(&d) {
		for _, side := range []int{api.Left, api.Right} {
			for _, mark := range []int{-api.MaxTime, -api.MaxTime + d.n(5), -d.n(9), d.n(9), api.MaxTime - 1 - d.n(15), api.MaxTime - 1, api.MaxTime} {
				gone, e := plan.Gone(p, side, mark)
				if e != api.OK {
					t.Fatalf("Gone: %d", e)
				}
				for time := max(-api.MaxTime, mark-25); time <= min(api.MaxTime, mark+25); time++ {
					met := metBehind(t, p, side, time, mark)
					if time <= gone && met {
						t.Fatalf("%v: of side %d %d is gone behind %d, and met", p, side, time, mark)
					}
					if inside := -9 <= mark && mark <= 9; inside && time == gone+1 && !met {
						t.Fatalf("%v: of side %d %d is not gone behind %d, and nobody meets it", p, side, time, mark)
					}
				}
			}
		}
	}
}

// do does the changes of an answer's lines to a view of rows that are shown;
// false, if a row goes that is not there.
func do(view map[string]int, lines []string) bool {
	for _, line := range lines {
		kind, row, _ := strings.Cut(line, " ")
		view[row] += map[string]int{"+": 1, ">": 1, "-": -1, "<": -1}[kind]
		if view[row] < 0 {
			return false
		}
		if view[row] == 0 {
			delete(view, row)
		}
	}
	return true
}

// linesOf is the lines of an answer.
func linesOf(s string) []string {
	l := strings.Split(s, "\n")
	return l[:len(l)-1]
}

// viewBehind is the view behind a script, as the desk tells it: a line without
// bytes is an error, and what is told behind it is the view.
func viewBehind(t *testing.T, script string) string {
	t.Helper()
	all := told(t, script+"\n\nview")
	mark := "error 1\n"
	return all[strings.LastIndex(all, mark)+len(mark):]
}

// viewShown is a view as the desk must tell it.
func viewShown(t *testing.T, v []api.Count) (s string) {
	for _, c := range v {
		s += fmt.Sprintf("%d %s\n", c.N, rowShown(t, c.Row))
	}
	return s
}

func TestTheChangesSoFarMakeTheJoinOfTheRowsSoFar(t *testing.T) { // G8, H4, I4, M4: grouped too; told in texts alone
	d := draw(73)
	for _, p := range plans(&d) {
		l := d.script(p, 60)
		script, before := planShown(t, p), ""
		view := make(map[string]int)
		var passed []int
		for at, v := range l {
			script += "\n" + eventShown(t, v)
			now := told(t, script)
			lines := linesOf(strings.TrimPrefix(now, before))
			before = now
			if len(lines) == 1 && strings.HasPrefix(lines[0], "error ") {
				passed = append(passed, at)
			} else if !do(view, lines) {
				t.Fatalf("%s\n%v takes back what is not there", script, lines)
			}
			all, e := batch.All(p, joined(l[:at+1], api.Left, passed), joined(l[:at+1], api.Right, passed))
			want := viewShown(t, all)
			if got := viewBehind(t, script); e != api.OK || got != want {
				t.Fatalf("%s\n%d, the view is\n%sand must be\n%s", script, e, got, want)
			}
			made := slices.Sorted(maps.Keys(view))
			for i := range made {
				made[i] = fmt.Sprintf("%d %s", view[made[i]], made[i])
			}
			if !slices.Equal(slices.Sorted(slices.Values(made)), slices.Sorted(slices.Values(linesOf(want)))) {
				t.Fatalf("%s\nthe changes make\n%v\nand must make\n%s", script, made, want)
			}
		}
		if len(passed) == 0 || len(passed) > 50 {
			t.Fatalf("%d of 60 events were passed over", len(passed))
		}
	}
}

func TestHowBothSidesAreMixedChangesNothingInTheEnd(t *testing.T) { // I4, M4
	d := draw(74)
	for _, p := range plans(&d) {
		for range 2 {
			l := d.script(p, 80)
			var first string
			for at, lefts := range []int{5, 0, 10, 1, 9, 5} {
				script := planShown(t, p)
				for _, v := range d.mixed(l, lefts) {
					script += "\n" + eventShown(t, v)
				}
				end := viewBehind(t, script)
				if at == 0 {
					first = end
				}
				if end != first || end == "" && p.Mode != api.Inner {
					t.Fatalf("%s\nin the end\n%sand must be\n%s", script, end, first)
				}
			}
		}
	}
}

// waits is the times and rows that a buffer keeps.
func waits(t *testing.T, b api.Buffer) (l []string) {
	entries, e := buffer.All(b)
	if e != api.OK {
		t.Fatalf("All: %d", e)
	}
	for _, x := range entries {
		l = append(l, fmt.Sprint(x.Time, " ", rowShown(t, x.Row)))
	}
	slices.Sort(l)
	return l
}

// mayMeet is the times and rows of a side that may still meet somebody.
func mayMeet(t *testing.T, p api.Plan, side, mark int, rows []api.Stamped) (l []string) {
	for _, r := range rows {
		if _, has, _ := plan.KeyOf(p, side, r.Row); has && metBehind(t, p, side, r.Time, mark) {
			l = append(l, fmt.Sprint(r.Time, " ", rowShown(t, r.Row)))
		}
	}
	slices.Sort(l)
	return l
}

func TestWhatIsKeptMayStillMeetSomebody(t *testing.T) { // G8: no others are kept; of Temporal of the left side, whose rows are asked for alone
	d := draw(75)
	for _, p := range plans(&d) {
		l := d.script(p, 70)
		for n := 0; n <= len(l); n += 7 {
			x, _, passed, _ := engine.Play(p, l[:n])
			left, right := joined(l[:n], api.Left, passed), joined(l[:n], api.Right, passed)
			if got, want := waits(t, x.Join.Left), mayMeet(t, p, api.Left, x.Join.RMark, left); !slices.Equal(got, want) {
				t.Fatalf("%v: of the left side are kept\n%v\nand must be\n%v", p, got, want)
			}
			if got, want := waits(t, x.Join.Right), mayMeet(t, p, api.Right, x.Join.LMark, right); p.Kind != api.Temporal && !slices.Equal(got, want) {
				t.Fatalf("%v: of the right side are kept\n%v\nand must be\n%v", p, got, want)
			}
		}
	}
}

func TestInTheEndNothingIsKept(t *testing.T) { // G8: of Temporal one version of each key at most
	d := draw(76)
	for _, p := range plans(&d) {
		end := []api.Event{{Kind: api.MarkEvent, Side: api.Left, Time: api.MaxTime}, {Kind: api.MarkEvent, Side: api.Right, Time: api.MaxTime}}
		x, _, _, e := engine.Play(p, append(d.script(p, 90), d.mixed(end, 5)...))
		left, _ := buffer.All(x.Join.Left)
		right, _ := buffer.All(x.Join.Right)
		keys := make(map[string]int)
		for _, r := range right {
			keys[r.Key]++
		}
		if e != api.OK || len(left) > 0 || len(keys) < len(right) || p.Kind != api.Temporal && len(right) > 0 {
			t.Fatalf("%v keeps %v and %v in the end", p, left, right)
		}
	}
}

// bytesOf is an engine as bytes, by which engines are told apart.
func bytesOf(t *testing.T, p api.Plan, x api.Engine) string {
	t.Helper()
	b, e := code.Write(p, x)
	if e != api.OK {
		t.Fatalf("Write: %d", e)
	}
	return b
}

func TestWhereverThePowerGoes(t *testing.T) { // L4: and however often
	d := draw(77)
	for _, p := range plans(&d) {
		l := d.script(p, 25)
		whole, _, _, _ := engine.Play(p, l)
		for range 25 {
			var acts []api.Act
			for range d.n(60) {
				a := api.Act{Kind: one(&d, api.ActNext, api.ActNext, api.ActNext, api.ActSave, api.ActCrash), Steps: d.n(4) - 1}
				for range d.n(4) {
					a.Cuts = append(a.Cuts, one(&d, -1, 0, 2, d.n(600), 1<<30))
				}
				acts = append(acts, a)
			}
			x, stepped, e := keep.Run(p, l, acts)
			if e != api.OK || stepped < len(l) || bytesOf(t, p, x) != bytesOf(t, p, whole) {
				t.Fatalf("%v, %v: %d stepped, %d, %v and must be %v", p, acts, stepped, e, x, whole)
			}
		}
	}
}

func TestThePowerGoesInASave(t *testing.T) { // L4: whatever the disk keeps of it, and goes again behind it
	d := draw(78)
	for _, p := range plans(&d)[:9] {
		l := d.script(p, 8)
		whole, _, _, _ := engine.Play(p, l)
		for cut := -1; cut < 1200; cut += 7 {
			next := api.Act{Kind: api.ActNext}
			crash := api.Act{Kind: api.ActCrash, Steps: 1, Cuts: []int{cut, cut}}
			acts := []api.Act{next, next, {Kind: api.ActSave}, next, next, crash, next, next, next, crash, next}
			x, stepped, e := keep.Run(p, l, acts)
			if e != api.OK || stepped < len(l) || stepped > 2*len(l) || bytesOf(t, p, x) != bytesOf(t, p, whole) {
				t.Fatalf("%v, %d bytes are kept: %d stepped, %d", p, cut, stepped, e)
			}
		}
	}
}

// turned is a text of which something is not as it was.
func (d *draw) turned(s string) string {
	at := d.n(len(s) + 1)
	to := min(len(s), at+d.n(2))
	return s[:at] + one(d, "", "\x00", "\x01", " ", "0", "\"", string([]byte{byte(d.n(256))})) + s[to:]
}

func TestWhatIsWrittenIsReadAsItWas(t *testing.T) { // J4, M5: engines, frames, plans, events and rows; and nothing else is
	d := draw(79)
	for _, p := range plans(&d) {
		l := d.script(p, 40)
		x, _, _, _ := engine.Play(p, l)
		b := bytesOf(t, p, x)
		f, _ := code.Frame(b)
		open, e := code.Open(f)
		if back, g := code.Read(p, open); e != api.OK || g != api.OK || bytesOf(t, p, back) != b {
			t.Fatalf("%v: %d %d", p, e, g)
		}
		s := planShown(t, p)
		if q, e := desk.ReadPlan(s); e != api.OK || planShown(t, q) != s || bytesOf(t, q, x) != b {
			t.Fatalf("%s: %v %d", s, q, e)
		}
		for range 200 {
			if other := d.turned(b); other != b {
				y, e := code.Read(p, other)
				mustBe(t, other, e, func() string { return bytesOf(t, p, y) })
			}
			if other := d.turned(f); other != f {
				y, e := code.Open(other)
				if e == api.OK {
					t.Fatalf("%q is opened as %q", other, y)
				}
			}
			other := d.turned(s)
			q, e := desk.ReadPlan(other)
			mustBe(t, other, e, func() string { return planShown(t, q) })
		}
		for _, v := range l {
			s := eventShown(t, v)
			back, e := desk.ReadEvent(s)
			mustBe(t, s, e, func() string { return eventShown(t, back) })
			if e != api.OK || back.Time != v.Time || !slices.Equal(back.Row, v.Row) {
				t.Fatalf("%s: %v %d", s, back, e)
			}
			for range 20 {
				other := d.turned(s)
				back, e := desk.ReadEvent(other)
				mustBe(t, other, e, func() string { return eventShown(t, back) })
				row, e := desk.ReadRow(other)
				mustBe(t, other, e, func() string { return rowShown(t, row) })
			}
		}
	}
}

// mustBe asks that a text that is read is what is written of what was read, and
// each other one is told ErrForm.
func mustBe(t *testing.T, s string, e api.Errno, written func() string) {
	t.Helper()
	if e == api.OK && written() == s || e == api.ErrForm {
		return
	}
	t.Fatalf("%q: %d", s, e)
}
