package times

import (
	"math"
	"math/big"
	"testing"

	"meetwater/api"
)

const m = api.MaxTime

// edges is numbers at all bounds.
var edges = []int{math.MinInt, math.MinInt + 1, -2*m - 1, -2 * m, -m - 1, -m, -m + 1, -11, -10, -9, -1, 0, 1, 7, 9, 10, 11, m - 1, m, m + 1, 2 * m, 2*m + 1, math.MaxInt - 1, math.MaxInt}

func fitsPlainly(ts ...int) bool {
	for _, t := range ts {
		if t < -m || t > m {
			return false
		}
	}
	return true
}

func TestFits(t *testing.T) { // B1
	for _, c := range []struct {
		t    int
		want bool
	}{{0, true}, {m, true}, {-m, true}, {m + 1, false}, {-m - 1, false}, {api.NoMark, false}, {math.MaxInt, false}, {math.MinInt, false}} {
		if got := Fits(c.t); got != c.want {
			t.Errorf("Fits(%d) is %v", c.t, got)
		}
	}
}

func TestAdd(t *testing.T) { // B1
	low, high := big.NewInt(-m), big.NewInt(m)
	for _, a := range edges {
		for _, b := range edges {
			want := new(big.Int).Add(big.NewInt(int64(a)), big.NewInt(int64(b)))
			if want.Cmp(low) < 0 {
				want = low
			}
			if want.Cmp(high) > 0 {
				want = high
			}
			if got := Add(a, b); int64(got) != want.Int64() {
				t.Errorf("Add(%d, %d) is %d and must be %d", a, b, got, want)
			}
		}
	}
}

func TestWindow(t *testing.T) { // B2
	for _, c := range []struct{ t, size, from, to int }{
		{-1, 10, -10, 0}, {0, 10, 0, 10}, {9, 10, 0, 10}, {10, 10, 10, 20}, {-10, 10, -10, 0}, {-11, 10, -20, -10},
		{7, 1, 7, 8}, {-7, 1, -7, -6}, {m, m, m, 2 * m}, {-m, m, -m, 0}, {-1, m, -m, 0},
		{-m, 3, -m - 2, -m + 1}, {m, 10, m - 6, m + 4}, {1 - m, m - 1, 1 - m, 0}, {-m, m - 1, 2 - 2*m, 1 - m},
	} {
		if from, to, e := Window(c.t, c.size); from != c.from || to != c.to || e != api.OK {
			t.Errorf("Window(%d, %d) is %d %d %d and must be %d %d", c.t, c.size, from, to, e, c.from, c.to)
		}
	}
}

func TestWindowErrors(t *testing.T) { // B2, P1
	for _, a := range edges {
		for _, size := range edges {
			from, to, e := Window(a, size)
			if right := fitsPlainly(a, size) && size >= 1; right != (e == api.OK) {
				t.Errorf("Window(%d, %d): %d", a, size, e)
			}
			if e != api.OK && (e != api.ErrRange || from != 0 || to != 0) {
				t.Errorf("Window(%d, %d) is %d %d %d", a, size, from, to, e)
			}
		}
	}
}

func TestMeets(t *testing.T) { // B3
	for _, c := range []struct {
		l, r, low, high int
		want            bool
	}{
		{0, -5, -5, 5, true}, {0, 5, -5, 5, true}, {0, -6, -5, 5, false}, {0, 6, -5, 5, false},
		{10, 12, 2, 2, true}, {10, 11, 2, 2, false}, {10, 13, 2, 2, false}, {12, 10, 2, 2, false},
		{m, m, 0, m, true}, {m, m, 1, m, false}, {-m, m, m, m, false}, {-m, 0, m, m, true}, {-m, -m, -m, m, true}, {m, -m, -m, m, false},
	} {
		if got, e := Meets(c.l, c.r, c.low, c.high); got != c.want || e != api.OK {
			t.Errorf("Meets(%d, %d, %d, %d) is %v %d", c.l, c.r, c.low, c.high, got, e)
		}
	}
}

func TestMeetsErrors(t *testing.T) { // B3, P1
	for _, x := range edges {
		for _, y := range edges {
			for _, args := range [][4]int{{x, y, 0, 0}, {0, x, y, m}, {0, 0, x, y}, {x, 0, -m, y}, {0, x, 1, y}} {
				want := api.OK
				if args[2] > args[3] {
					want = api.ErrForm
				}
				if !fitsPlainly(args[:]...) {
					want = api.ErrRange
				}
				is, e := Meets(args[0], args[1], args[2], args[3])
				if e != want || e != api.OK && is {
					t.Errorf("Meets(%v) is %v %d and must be %d", args, is, e, want)
				}
			}
		}
	}
}

func TestUntil(t *testing.T) { // B4
	for _, c := range []struct{ mark, span, want int }{
		{10, 3, 7}, {10, -3, 13}, {9, 5, 4}, {0, 0, 0}, {-m, m, -2 * m}, {m - 1, -m, 2*m - 1},
		{m, m, m}, {m, 0, m}, {m, -m, m}, {m, 5, m},
	} {
		if got, e := Until(c.mark, c.span); got != c.want || e != api.OK {
			t.Errorf("Until(%d, %d) is %d %d and must be %d", c.mark, c.span, got, e, c.want)
		}
	}
	for _, c := range [][2]int{{m + 1, 0}, {api.NoMark, 0}, {0, m + 1}, {0, -m - 1}, {m, m + 1}, {math.MaxInt, math.MinInt}, {math.MinInt, math.MaxInt}} {
		if got, e := Until(c[0], c[1]); got != 0 || e != api.ErrRange {
			t.Errorf("Until(%d, %d) is %d %d and must be 0 and ErrRange", c[0], c[1], got, e)
		}
	}
}

func TestATimeIsInOneWindow(t *testing.T) { // B5
	near := []int{-m, -m + 1, -m + 2, -m + 9, m - 9, m - 2, m - 1, m}
	for a := -40; a <= 40; a++ {
		near = append(near, a)
	}
	for _, size := range []int{1, 2, 3, 7, 10, 40, m - 1, m} {
		for _, a := range near {
			from, to, e := Window(a, size)
			if e != api.OK || from%size != 0 || to-from != size || a < from || a >= to {
				t.Errorf("Window(%d, %d) is %d %d %d", a, size, from, to, e)
			}
			for _, b := range near {
				other, _, _ := Window(b, size)
				if (other == from) != (from <= b && b < to) {
					t.Errorf("of size %d the window of %d is from %d on, that of %d from %d to %d", size, b, other, a, from, to)
				}
			}
		}
	}
}

// A left time at or ahead of Until(mark, high) meets no right time behind the
// mark; the next left time meets one, unless the mark is the last.
func TestNobodyBehindTheMarkMeetsWhatIsGone(t *testing.T) { // B5
	for _, mark := range []int{-m, -m + 1, -3, 0, 5, m - 2, m - 1, m} {
		for _, high := range []int{-m, -9, -1, 0, 1, 9, m} {
			gone, e := Until(mark, high)
			if e != api.OK {
				t.Fatalf("Until(%d, %d): %d", mark, high, e)
			}
			for _, l := range []int{gone - 20, gone - 1, gone, -m, m} {
				for _, r := range []int{mark + 1, mark + 2, mark + 20, l + high, m} {
					if l > gone || r <= mark || !Fits(l) || !Fits(r) {
						continue
					}
					if is, e := Meets(l, r, -m, high); is || e != api.OK {
						t.Errorf("mark %d, span %d: %d is gone and meets %d (%d)", mark, high, l, r, e)
					}
				}
			}
			if mark < m && Fits(gone+1) {
				if is, _ := Meets(gone+1, mark+1, high, high); !is {
					t.Errorf("mark %d, span %d: %d is not gone and meets nobody", mark, high, gone+1)
				}
			}
		}
	}
}
