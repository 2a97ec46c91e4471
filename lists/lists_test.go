package lists

import "testing"

func TestEvery(t *testing.T) { // each element is asked, with its place, up to the first that is not so
	rising := func(at, x int) bool { return at == x }
	for _, c := range []struct {
		l    []int
		want bool
	}{{nil, true}, {[]int{}, true}, {[]int{0}, true}, {[]int{0, 1, 2}, true}, {[]int{1}, false}, {[]int{0, 1, 3}, false}, {[]int{0, 2, 2}, false}} {
		if got := Every(c.l, rising); got != c.want {
			t.Errorf("Every(%v) is %v", c.l, got)
		}
	}
	asked := 0
	Every([]string{"a", "", "b"}, func(_ int, s string) bool { asked++; return s != "" })
	if asked != 2 {
		t.Errorf("%d were asked", asked)
	}
}
