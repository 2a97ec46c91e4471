package figures

import (
	"math"
	"testing"

	"meetwater/api"
)

func num(n int) api.Value     { return api.Value{Kind: api.Int, N: n} }
func word(s string) api.Value { return api.Value{Kind: api.Text, S: s} }

func tally(v api.Value, n int) api.Tally { return api.Tally{Value: v, N: n} }

func TestOf(t *testing.T) { // whatever the order of the bag
	nothing := api.Value{}
	mixed := []api.Tally{tally(num(4), 2), tally(nothing, 5), tally(num(-3), 3), tally(num(9), 1), tally(num(4), 1)}
	words := []api.Tally{tally(word("b"), 1), tally(word(""), 2), tally(nothing, 1), tally(word("ba"), 1)}
	for _, c := range []struct {
		fn, n int
		bag   []api.Tally
		want  api.Value
	}{
		{api.CountOf, 7, nil, num(7)}, {api.CountOf, 0, mixed, num(0)},
		{api.SumOf, 12, mixed, num(12)}, {api.SumOf, 0, nil, nothing}, {api.SumOf, 5, []api.Tally{tally(nothing, 5)}, nothing},
		{api.SumOf, 2, []api.Tally{tally(num(math.MaxInt), 2)}, num(-2)}, {api.SumOf, 2, []api.Tally{tally(num(0), 2)}, num(0)},
		{api.MinOf, 12, mixed, num(-3)}, {api.MaxOf, 12, mixed, num(9)},
		{api.MinOf, 5, words, word("")}, {api.MaxOf, 5, words, word("ba")},
		{api.MinOf, 3, []api.Tally{tally(nothing, 3)}, nothing}, {api.MaxOf, 3, []api.Tally{tally(nothing, 3)}, nothing}, {api.MinOf, 0, nil, nothing},
	} {
		if got := Of(c.fn, c.n, c.bag); got != c.want {
			t.Errorf("figure %d of %v is %v and must be %v", c.fn, c.bag, got, c.want)
		}
	}
}
