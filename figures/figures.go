// Package figures: what the values of a group come to.
package figures

import (
	"meetwater/api"
	"meetwater/value"
)

// Of is a figure of n rows, whose cells of its column are in the bag; that of
// CountOf asks for none.
func Of(fn, n int, bag []api.Tally) api.Value {
	switch fn {
	case api.CountOf:
		return api.Value{Kind: api.Int, N: n}
	case api.SumOf:
		return sum(bag)
	case api.MinOf:
		return outermost(bag, -1)
	}
	return outermost(bag, 1)
}

func sum(bag []api.Tally) api.Value {
	var sum api.Value
	for _, t := range bag {
		if t.Value.Kind == api.Int {
			sum = api.Value{Kind: api.Int, N: sum.N + t.Value.N*t.N}
		}
	}
	return sum
}

// outermost is the value from which each other one lies the other way; way is
// -1 for the first by Compare, 1 for the last.
func outermost(bag []api.Tally, way int) api.Value {
	var best api.Value
	for _, t := range bag {
		if t.Value.Kind == api.Null {
			continue
		}
		if best.Kind == api.Null || value.Compare(t.Value, best) == way {
			best = t.Value
		}
	}
	return best
}
