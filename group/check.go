package group

import (
	"meetwater/api"
	"meetwater/cells"
	"meetwater/lists"
	"meetwater/sides"
	"meetwater/value"
)

func rowRight(row []api.Value, columns []int) api.Errno {
	if len(row) != len(columns) {
		return api.ErrMany
	}
	if !cells.Typed(row, columns) {
		return api.ErrType
	}
	return api.OK
}

func formRight(p api.Plan, g []api.Group) bool {
	columns := sides.Together(p)
	var own []int
	for _, at := range p.Group {
		own = append(own, columns[at])
	}
	return lists.Every(g, func(at int, x api.Group) bool {
		_, noKey := value.Key(x.Row)
		return noKey == api.OK && cells.Typed(x.Row, own) && 1 <= x.N && x.N <= api.MaxCount &&
			(at == 0 || value.Rows(g[at-1].Row, x.Row) < 0) && bagsRight(p.Aggs, columns, x)
	})
}

func bagsRight(aggs []api.Agg, columns []int, x api.Group) bool {
	return len(x.Bags) == len(aggs) && lists.Every(x.Bags, func(at int, bag []api.Tally) bool {
		if aggs[at].Fn == api.CountOf {
			return len(bag) == 0
		}
		return talliesRight(bag, columns[aggs[at].Col], x.N)
	})
}

// talliesRight counts down from n, and never below 0: whatever tallies say,
// their sum must not go round.
func talliesRight(bag []api.Tally, column, n int) bool {
	rest := n
	for at, t := range bag {
		if !valueRight(t.Value, column) || t.N < 1 || t.N > rest {
			return false
		}
		if at > 0 && value.Compare(bag[at-1].Value, t.Value) >= 0 {
			return false
		}
		rest -= t.N
	}
	return rest == 0
}

func valueRight(v api.Value, column int) bool {
	return value.Check(v) == api.OK && (v.Kind == api.Null || v.Kind == column)
}
