package cells

import (
	"slices"
	"testing"

	"meetwater/api"
)

var row = []api.Value{{Kind: api.Int, N: 1}, {}, {Kind: api.Text, S: "a"}}

func TestTyped(t *testing.T) {
	for _, c := range []struct {
		columns []int
		want    bool
	}{
		{[]int{api.Int, api.Bool, api.Text}, true},
		{[]int{api.Int, api.Text, api.Text}, true},
		{[]int{api.Bool, api.Bool, api.Text}, false},
		{[]int{api.Int, api.Bool, api.Int}, false},
		{[]int{api.Int, api.Bool}, false},
		{[]int{api.Int, api.Bool, api.Text, api.Int}, false},
		{nil, false},
	} {
		if got := Typed(row, c.columns); got != c.want {
			t.Errorf("Typed of %v is %v", c.columns, got)
		}
	}
	if !Typed(nil, []int{}) {
		t.Error("no cells are of no columns")
	}
}

func TestPick(t *testing.T) {
	for _, places := range [][]int{nil, {0}, {2, 0}, {1, 1, 2}} {
		got := Pick(row, places)
		if len(got) != len(places) {
			t.Fatalf("Pick of %v is %v", places, got)
		}
		for i, at := range places {
			if got[i] != row[at] {
				t.Errorf("Pick of %v is %v", places, got)
			}
		}
	}
	was := slices.Clone(row)
	Pick(row, []int{0, 1})[0].N = 9
	if !slices.Equal(row, was) {
		t.Error("what was picked is the row's own memory")
	}
}

func TestCheckView(t *testing.T) { // of all rows the numbers of cells ahead of the types
	columns := []int{api.Int, api.Bool, api.Text}
	typed, short := []api.Value{{}, {}, {Kind: api.Int}}, []api.Value{{}, {}}
	for _, c := range []struct {
		rows [][]api.Value
		want api.Errno
	}{
		{nil, api.OK}, {[][]api.Value{row, row}, api.OK},
		{[][]api.Value{row, short}, api.ErrMany}, {[][]api.Value{row, typed}, api.ErrType},
		{[][]api.Value{typed, row, short}, api.ErrMany}, {[][]api.Value{short, typed}, api.ErrMany},
	} {
		var v []api.Count
		for _, r := range c.rows {
			v = append(v, api.Count{Row: r, N: 1})
		}
		if got := CheckView(v, columns); got != c.want {
			t.Errorf("%v: %d and must be %d", c.rows, got, c.want)
		}
	}
}
