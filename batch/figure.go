package batch

import (
	"meetwater/api"
	"meetwater/value"
)

// figure is what a group's rows come to; each counts as often as it stands there.
func figure(a api.Agg, rows []api.Count) api.Value {
	switch a.Fn {
	case api.CountOf:
		return countOf(rows)
	case api.SumOf:
		return sumOf(rows, a.Col)
	case api.MinOf:
		return outermost(rows, a.Col, -1)
	}
	return outermost(rows, a.Col, 1)
}

func countOf(rows []api.Count) api.Value {
	n := 0
	for _, c := range rows {
		n += c.N
	}
	return api.Value{Kind: api.Int, N: n}
}

func sumOf(rows []api.Count, column int) api.Value {
	var sum api.Value
	for _, c := range rows {
		if v := c.Row[column]; v.Kind == api.Int {
			sum = api.Value{Kind: api.Int, N: sum.N + v.N*c.N}
		}
	}
	return sum
}

// outermost is the column's value from which each other one lies the other way;
// way is -1 for the first by Compare, 1 for the last.
func outermost(rows []api.Count, column, way int) api.Value {
	var best api.Value
	for _, c := range rows {
		v := c.Row[column]
		if v.Kind == api.Null {
			continue
		}
		if best.Kind == api.Null || value.Compare(v, best) == way {
			best = v
		}
	}
	return best
}
