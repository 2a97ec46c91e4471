package sides

import (
	"slices"
	"testing"

	"meetwater/api"
)

func TestSides(t *testing.T) {
	for side, want := range map[int]bool{api.Left: true, api.Right: true, 0: false, 3: false, -1: false} {
		if Is(side) != want {
			t.Errorf("Is(%d) is %v", side, !want)
		}
	}
	if Other(api.Left) != api.Right || Other(api.Right) != api.Left {
		t.Error("the other side is the side itself")
	}
}

func TestColumns(t *testing.T) {
	p := api.Plan{Left: []int{1, 2}, Right: []int{3}}
	if l, r, all := Columns(p, api.Left), Columns(p, api.Right), Together(p); !slices.Equal(l, []int{1, 2}) || !slices.Equal(r, []int{3}) || !slices.Equal(all, []int{1, 2, 3}) {
		t.Errorf("%v, %v, %v", l, r, all)
	}
	if l, r := Nulls(p, api.Left), Nulls(p, api.Right); !slices.Equal(l, make([]api.Value, 2)) || !slices.Equal(r, make([]api.Value, 1)) {
		t.Errorf("%v, %v", l, r)
	}
	Together(p)[0] = 9
	if p.Left[0] != 1 {
		t.Error("the columns are the plan's own memory")
	}
}

func TestKeeps(t *testing.T) {
	for mode, want := range map[int][2]bool{api.Inner: {false, false}, api.LeftOuter: {true, false}, api.RightOuter: {false, true}, api.FullOuter: {true, true}} {
		if got := [2]bool{Keeps(mode, api.Left), Keeps(mode, api.Right)}; got != want {
			t.Errorf("mode %d keeps %v", mode, got)
		}
	}
}

func TestJoined(t *testing.T) { // the left cells stand first, whichever side is told first; and the row is new
	l, r := []api.Value{{Kind: api.Int, N: 1}, {}}, []api.Value{{Kind: api.Int, N: 3}}
	want := []api.Value{l[0], l[1], r[0]}
	room := append(slices.Clone(l), r...)[:2]
	for _, got := range [][]api.Value{Joined(api.Left, l, r), Joined(api.Right, r, l), Joined(api.Left, room, r)} {
		if !slices.Equal(got, want) {
			t.Errorf("%v", got)
		}
		got[0].N, got[2].N = 9, 9
	}
	if l[0].N != 1 || r[0].N != 3 || room[:3][2].N != 3 {
		t.Error("a joined row is its parts' own memory")
	}
}
