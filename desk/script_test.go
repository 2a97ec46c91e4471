package desk

import (
	"fmt"
	"slices"
	"strings"
	"testing"

	"meetwater/api"
	"meetwater/engine"
)

const (
	plain   = "interval -5 5 full limit 2 from int int and int int on 0 is 0"
	grouped = plain + " by 0 tell count sum 1"
)

// lines is a text of which each line has a line feed behind it.
func lines(l ...string) string {
	s := ""
	for _, line := range l {
		s += line + "\n"
	}
	return s
}

func TestPlay(t *testing.T) { // M4
	for name, c := range map[string]struct {
		script []string
		want   []string
	}{
		"a plan alone": {[]string{plain}, nil},
		"examples 5 and 7 of the document": {
			[]string{plain, "left 1 7 1", "right 2 7 2", "right 9 7 3", "view"},
			[]string{"+ 7 1 null null", "< 7 1 null null", "> 7 1 7 2", "+ null null 7 3", "1 null null 7 3", "1 7 1 7 2"}},
		"example 8 of the document": {
			[]string{grouped, "left 1 7 1", "right 2 7 2", "left 0 7 4", "view"},
			[]string{"+ 7 1 1", "< 7 1 1", "> 7 2 5", "1 7 2 5"}},
		"a group that goes": {
			[]string{plain + " by 2 tell count", "left 1 7 1", "view", "right 1 7 2", "view"},
			[]string{"+ null 1", "1 null 1", "- null 1", "+ 7 1", "1 7 1"}},
		"a view without rows": {[]string{plain, "view", "view"}, nil},
		"a row often": {
			[]string{plain, "left 1 7 1", "left 1 7 1", "left 2 7 1", "view", "view"},
			[]string{"+ 7 1 null null", "+ 7 1 null null", "+ 7 1 null null", "3 7 1 null null", "3 7 1 null null"}},
		"marks tell nothing": {[]string{plain, "mark left 5", "mark right 5", "mark left 5"}, nil},
		"the engine's errors": {
			[]string{plain, "mark left 5", "left 5 7 1", "mark left 4", "left 6 7", `left 6 "a" 1`, "left 6", "left 6 7 1", "view"},
			[]string{"error 7", "error 8", "error 2", "error 5", "error 2", "+ 7 1 null null", "1 7 1 null null"}},
		"ReadEvent's errors": {
			[]string{plain, "", "up", "left", "left 05 7 1", "left 1099511627777 7 1", "mark left 1 7", "view ", " view", "views", "View", "view view", plain, "left 1 7 1\r", "left 6 7 1"},
			append(slices.Repeat([]string{"error 1"}, 13), "+ 7 1 null null")},
		"a line feed at the end has a line behind it": {[]string{plain, "left 1 7 1", ""}, []string{"+ 7 1 null null", "error 1"}},
		"with an error nothing has changed": {
			[]string{plain, "left 1 7 1", "left 1 7", "mark left 0 7", "view", "left 0 7 2"},
			[]string{"+ 7 1 null null", "error 2", "error 1", "1 7 1 null null", "+ 7 2 null null"}},
		"all kinds of cells": {
			[]string{"window 10 inner limit 1 from text bool and bool text on 0 1 is 1 0", `left 1 "a b" true`, `right 9 true "a b"`, `left 1 "\0a" false`, `right 2 false "\0a"`, "right 3 null null", `left 4 "a b" null`, "view"},
			[]string{`+ "a b" true true "a b"`, `+ "\0a" false false "\0a"`, `1 "\0a" false false "\0a"`, `1 "a b" true true "a b"`}},
		"versions": {
			[]string{"temporal left limit 1 from int int and int int on 0 is 0", "left 5 7 1", "right 1 7 2", "right 3 7 3", "right 2 7 4", "left 2 7 5", "view"},
			[]string{"+ 7 1 null null", "< 7 1 null null", "> 7 1 7 2", "< 7 1 7 2", "> 7 1 7 3", "+ 7 5 7 4", "1 7 1 7 3", "1 7 5 7 4"}},
	} {
		if s, e := Play(strings.Join(c.script, "\n")); e != api.OK || s != lines(c.want...) {
			t.Errorf("%s: %d\n%sand must be\n%s", name, e, s, lines(c.want...))
		}
	}
}

// fill is a script of just so many bytes: its last line is wrong, and as long
// as need be.
func fill(script string, bytes int) string {
	return script + "\n" + strings.Repeat("x", bytes-len(script)-1)
}

func TestPlayErrors(t *testing.T) { // M4, P1: each error, and which is told first
	for name, c := range map[string]struct {
		s    string
		want api.Errno
	}{
		"nothing":                               {"", api.ErrForm},
		"a line feed":                           {"\n", api.ErrForm},
		"an event first":                        {"left 1 7 1\n" + plain, api.ErrForm},
		"view first":                            {"view\n" + plain, api.ErrForm},
		"a line feed first":                     {"\n" + plain, api.ErrForm},
		"a plan that is not right":              {"temporal full limit 2 from int and int on 0 is 0\nview", api.ErrForm},
		"a plan that has too many columns":      {"temporal inner limit 2 from int int int int int and int on 0 is 0", api.ErrForm},
		"a blank behind the plan":               {plain + " \nleft 1 7 1", api.ErrForm},
		"a line feed of two bytes":              {plain + "\r\nleft 1 7 1", api.ErrForm},
		"too many lines":                        {plain + strings.Repeat("\nview", api.MaxEvents+1), api.ErrMany},
		"too many lines without bytes":          {plain + strings.Repeat("\n", api.MaxEvents+1), api.ErrMany},
		"too many lines, and no plan":           {strings.Repeat("\n", api.MaxEvents+1), api.ErrMany},
		"as many lines as may be, and no plan":  {strings.Repeat("\n", api.MaxEvents), api.ErrForm},
		"too many bytes":                        {fill(plain, api.MaxDesk+1), api.ErrMany},
		"too many bytes, and no plan":           {strings.Repeat("x", api.MaxDesk+1), api.ErrMany},
		"as many bytes as may be, and no plan":  {strings.Repeat("x", api.MaxDesk), api.ErrForm},
		"too many bytes of line feeds":          {strings.Repeat("\n", api.MaxDesk+1), api.ErrMany},
		"far too many bytes":                    {strings.Repeat("left 1 7 1\n", 1<<18), api.ErrMany},
		"a plan of as many bytes as may be":     {strings.Repeat(" ", api.MaxDesk), api.ErrForm},
		"a plan, and lines of which one is one": {"mark left 1\n" + plain + "\nview", api.ErrForm},
	} {
		if s, e := Play(c.s); e != c.want || s != "" {
			t.Errorf("%s: %q %d and must be %d", name, s, e, c.want)
		}
	}
}

func TestPlayBounds(t *testing.T) { // M4: as much as may be
	for name, c := range map[string]struct{ s, want string }{
		"lines":                {plain + strings.Repeat("\nleft 1 7 1", api.MaxEvents), strings.Repeat("+ 7 1 null null\n", api.MaxEvents)},
		"lines without bytes":  {plain + strings.Repeat("\n", api.MaxEvents), strings.Repeat("error 1\n", api.MaxEvents)},
		"views count as lines": {plain + "\nleft 1 7 1" + strings.Repeat("\nview", api.MaxEvents-1), "+ 7 1 null null\n" + strings.Repeat("1 7 1 null null\n", api.MaxEvents-1)},
		"bytes":                {fill(plain+"\nleft 1 7 1", api.MaxDesk), "+ 7 1 null null\nerror 1\n"},
	} {
		if s, e := Play(c.s); e != api.OK || s != c.want {
			t.Errorf("%s: %d, %d bytes and must be %d", name, e, len(s), len(c.want))
		}
	}
}

func TestManyRows(t *testing.T) { // M4: rows as long, and views as wide, as a script makes them
	long := strings.Repeat(`\00`, api.MaxText)
	script := "interval -200 200 inner limit 64 from int text and int text on 0 is 0"
	want := ""
	var view []string
	for i := range 50 {
		script += fmt.Sprintf("\nleft %d 7 \"%s\"\nright %d 7 \"%s\"", i, long, i, long)
		for range 2*i + 1 {
			want += fmt.Sprintf("+ 7 \"%s\" 7 \"%s\"\n", long, long)
		}
		view = []string{fmt.Sprintf("%d 7 \"%s\" 7 \"%s\"", (i+1)*(i+1), long, long)}
	}
	if s, e := Play(script + "\nview"); e != api.OK || s != want+lines(view...) {
		t.Errorf("%d, %d bytes and must be %d", e, len(s), len(want))
	}
}

// cellOf is a cell of a column, most often of few values, so that rows meet.
func (d *draw) cellOf(column int) api.Value {
	if d.n(10) == 0 {
		return null()
	}
	switch column {
	case api.Bool:
		return flag(d.n(2))
	case api.Int:
		return num(d.n(2))
	}
	return text(one(d, "", " \n"))
}

// eventOf is an event of a plan; a few are wrong.
func (d *draw) eventOf(p api.Plan, now int) api.Event {
	e := api.Event{Kind: api.RowEvent, Side: 1 + d.n(2), Time: now + d.n(9) - 4}
	if d.n(8) == 0 {
		e.Kind = api.MarkEvent
		return e
	}
	columns := p.Left
	if e.Side == api.Right {
		columns = p.Right
	}
	for _, column := range columns {
		e.Row = append(e.Row, d.cellOf(column))
	}
	if d.n(20) == 0 {
		e.Row = d.row()
	}
	return e
}

func TestPlayIsTheEngine(t *testing.T) { // M4, M5: of plans of all shapes, line by line
	d := draw(64)
	for range 150 {
		p := d.plan()
		if p.Kind == api.Interval {
			p.Low, p.High = -d.n(6), d.n(6)
		}
		now, _ := engine.Start(p)
		script, want := planShownAs(p), ""
		for i := range 100 {
			if d.n(6) == 0 {
				script += "\nview"
				for _, c := range now.View {
					want += fmt.Sprintln(c.N, shownAs(c.Row))
				}
				continue
			}
			v := d.eventOf(p, i)
			script += "\n" + eventShownAs(v)
			next, out, e := engine.Step(p, now, v)
			if e != api.OK {
				want += fmt.Sprintln("error", int(e))
				continue
			}
			now = next
			for _, c := range out {
				want += fmt.Sprintln(string("?+-<>"[c.Kind]), shownAs(c.Row))
			}
		}
		for range 2 { // P3
			if s, e := Play(script); e != api.OK || s != want {
				t.Fatalf("%s: %d\n%sand must be\n%s", script, e, s, want)
			}
		}
	}
}

func TestWhateverIsPlayed(t *testing.T) { // P1: every call ends, and none panics
	d := draw(65)
	for range 3000 {
		p := d.plan()
		script := planShownAs(p)
		for i := range d.n(30) {
			script += "\n" + eventShownAs(d.eventOf(p, i))
		}
		for range 1 + d.n(3) {
			script = d.turned(script)
		}
		if s, e := Play(script); e != api.OK && (e != api.ErrForm || s != "") {
			t.Fatalf("%q: %q %d", script, s, e)
		}
	}
}
