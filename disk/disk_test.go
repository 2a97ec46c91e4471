package disk

import (
	"math"
	"slices"
	"testing"

	"meetwater/api"
)

func of(slots ...api.Slot) api.Disk { return api.Disk{Slots: slots} }

func safe(s string) api.Slot { return api.Slot{Safe: s} }

func waits(safe, wait string) api.Slot { return api.Slot{Safe: safe, Wait: wait, Has: true} }

func same(a, b api.Disk) bool { return slices.Equal(a.Slots, b.Slots) }

func TestNew(t *testing.T) { // K1
	for _, n := range []int{math.MinInt, -1, 0, api.MaxSlots + 1, math.MaxInt} {
		if d, e := New(n); e != api.ErrRange || len(d.Slots) > 0 {
			t.Errorf("New of %d: %v %d", n, d, e)
		}
	}
	for n := 1; n <= api.MaxSlots; n++ {
		if d, e := New(n); e != api.OK || !same(d, of(make([]api.Slot, n)...)) || Check(d) != api.OK {
			t.Errorf("New of %d: %v %d", n, d, e)
		}
	}
}

func TestCheck(t *testing.T) { // K1: each error, and which is told first
	wrong := api.Slot{Safe: "a", Wait: "b"}
	for name, c := range map[string]struct {
		d    api.Disk
		want api.Errno
	}{
		"no slot":                  {api.Disk{}, api.ErrMany},
		"no slot, not nil":         {of(), api.ErrMany},
		"one":                      {of(safe("")), api.OK},
		"as many as may be":        {of(make([]api.Slot, api.MaxSlots)...), api.OK},
		"one more":                 {of(make([]api.Slot, api.MaxSlots+1)...), api.ErrMany},
		"one more, and a Wait":     {of(slices.Repeat([]api.Slot{wrong}, api.MaxSlots+1)...), api.ErrMany},
		"a Wait":                   {of(wrong), api.ErrForm},
		"a Wait in the last":       {of(safe(""), waits("", "a"), wrong), api.ErrForm},
		"what waits":               {of(waits("a", "b"), waits("", "")), api.OK},
		"any bytes, and many more": {of(waits("\x00\xff", string(make([]byte, 2*api.MaxBody)))), api.OK},
	} {
		if e := Check(c.d); e != c.want {
			t.Errorf("%s: %d and must be %d", name, e, c.want)
		}
	}
}

func TestErrors(t *testing.T) { // K1, P1: Check's, then ErrNone; and nothing beside them
	two := of(safe("a"), waits("b", "c"))
	for _, c := range []struct {
		d    api.Disk
		slot int
		want api.Errno
	}{
		{api.Disk{}, 0, api.ErrMany}, {api.Disk{}, -1, api.ErrMany}, {of(make([]api.Slot, api.MaxSlots+1)...), 0, api.ErrMany},
		{of(safe(""), api.Slot{Wait: "x"}), 0, api.ErrForm}, {of(safe(""), api.Slot{Wait: "x"}), 2, api.ErrForm},
		{two, -1, api.ErrNone}, {two, 2, api.ErrNone}, {two, math.MaxInt, api.ErrNone}, {two, math.MinInt, api.ErrNone},
	} {
		w, e1 := Write(c.d, c.slot, "x")
		s, e2 := Sync(c.d, c.slot)
		r, e3 := Read(c.d, c.slot)
		if e1 != c.want || e2 != c.want || e3 != c.want {
			t.Errorf("%v, slot %d: %d %d %d and must be %d", c.d, c.slot, e1, e2, e3, c.want)
		}
		if len(w.Slots)+len(s.Slots)+len(r) > 0 {
			t.Errorf("%v, slot %d: something is told beside an error", c.d, c.slot)
		}
		if c.want == api.ErrNone {
			continue
		}
		if d, e := Crash(c.d, []int{1}); e != c.want || len(d.Slots) > 0 {
			t.Errorf("Crash of %v: %v %d and must be %d", c.d, d, e, c.want)
		}
	}
}

func TestWriteSyncRead(t *testing.T) { // K2
	d := of(safe("a"), waits("b", "c"), safe(""))
	for slot, want := range []string{"a", "c", ""} {
		if s, e := Read(d, slot); e != api.OK || s != want {
			t.Errorf("Read of %d: %q %d", slot, s, e)
		}
	}
	for slot, want := range []api.Disk{
		of(waits("a", "x"), waits("b", "c"), safe("")),
		of(safe("a"), waits("b", "x"), safe("")),
		of(safe("a"), waits("b", "c"), waits("", "x")),
	} {
		if n, e := Write(d, slot, "x"); e != api.OK || !same(n, want) {
			t.Errorf("Write to %d: %v %d", slot, n, e)
		}
	}
	for slot, want := range []api.Disk{d, of(safe("a"), safe("c"), safe("")), d} {
		if n, e := Sync(d, slot); e != api.OK || !same(n, want) {
			t.Errorf("Sync of %d: %v %d", slot, n, e)
		}
	}
	n, e := Write(d, 0, "") // a text without bytes waits like any other
	if e != api.OK || !same(n, of(waits("a", ""), waits("b", "c"), safe(""))) {
		t.Errorf("nothing is written: %v %d", n, e)
	}
	if s, e := Read(n, 0); e != api.OK || s != "" {
		t.Errorf("nothing waits: %q %d", s, e)
	}
	if n, e := Sync(n, 0); e != api.OK || !same(n, of(safe(""), waits("b", "c"), safe(""))) {
		t.Errorf("nothing is synced: %v %d", n, e)
	}
}

func TestCrash(t *testing.T) { // K3
	for _, c := range []struct {
		cut  int
		want string
	}{
		{math.MinInt, "old"}, {-1, "old"}, {0, ""}, {1, "w"}, {3, "wri"}, {7, "written"}, {8, "written"}, {math.MaxInt, "written"},
	} {
		if d, e := Crash(of(waits("old", "written")), []int{c.cut}); e != api.OK || !same(d, of(safe(c.want))) {
			t.Errorf("%d: %v %d", c.cut, d, e)
		}
	}
	d := of(safe("a"), waits("b", "cd"), waits("e", "fg"), waits("h", ""), waits("i", "jk"))
	for _, c := range []struct {
		cuts []int
		want []string
	}{
		{nil, []string{"a", "", "", "", ""}},
		{[]int{}, []string{"a", "", "", "", ""}},
		{[]int{1, 1}, []string{"a", "c", "", "", ""}},
		{[]int{-1, -1, 2, 5, 1}, []string{"a", "b", "fg", "", "j"}},
		{[]int{0, 2, -9, -1, 9, 7, -1}, []string{"a", "cd", "e", "h", "jk"}},
	} {
		var want []api.Slot
		for _, s := range c.want {
			want = append(want, safe(s))
		}
		n, e := Crash(d, c.cuts)
		if e != api.OK || !same(n, of(want...)) {
			t.Errorf("%v: %v %d", c.cuts, n, e)
		}
		if again, e := Crash(n, []int{-1, 0, 1, 2, 3}); e != api.OK || !same(again, n) {
			t.Errorf("%v, and again: %v %d", c.cuts, again, e)
		}
	}
}

func TestMemory(t *testing.T) { // P2: what is handed in is only read, the room behind it too, and an answer is new
	room := []api.Slot{safe("a"), waits("b", "c"), safe("behind")}
	was := slices.Clone(room)
	d := of(room[:2]...)
	cuts := []int{1, 1, 77}
	for name, do := range map[string]func() (api.Disk, api.Errno){
		"Write":                    func() (api.Disk, api.Errno) { return Write(d, 0, "x") },
		"Sync":                     func() (api.Disk, api.Errno) { return Sync(d, 1) },
		"Sync, where nothing is":   func() (api.Disk, api.Errno) { return Sync(d, 0) },
		"Crash":                    func() (api.Disk, api.Errno) { return Crash(d, cuts[:2]) },
		"Crash, and nothing waits": func() (api.Disk, api.Errno) { return Crash(of(d.Slots[:1]...), cuts[:2]) },
	} {
		n, e := do()
		want := slices.Clone(n.Slots)
		if e != api.OK || !slices.Equal(room, was) {
			t.Errorf("%s changed what it was handed: %v %d", name, room, e)
		}
		all := n.Slots[:cap(n.Slots)]
		for i := range all {
			all[i] = safe("spoilt")
		}
		if !slices.Equal(room, was) || !slices.Equal(cuts, []int{1, 1, 77}) {
			t.Errorf("%s: the answer is the caller's", name)
		}
		if n, e := do(); e != api.OK || !slices.Equal(n.Slots, want) { // P3
			t.Errorf("%s, again: %v %d", name, n, e)
		}
	}
}
