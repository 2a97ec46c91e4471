package plan

import (
	"slices"

	"meetwater/api"
	"meetwater/lists"
	"meetwater/sides"
	"meetwater/times"
)

func between(n, from, to int) bool { return from <= n && n <= to }

func kindsRight(p api.Plan) bool {
	modes := api.FullOuter
	if p.Kind == api.Temporal { // versions are not told without a left row
		modes = api.LeftOuter
	}
	return between(p.Kind, api.Interval, api.Temporal) &&
		between(p.Mode, api.Inner, modes) &&
		(!p.Grouped || figuresRight(p.Aggs))
}

func figuresRight(l []api.Agg) bool {
	return lists.Every(l, func(_ int, a api.Agg) bool { return between(a.Fn, api.CountOf, api.MaxOf) })
}

func rangesRight(p api.Plan) bool {
	return spanRight(p) && sizeRight(p) && between(p.Limit, 1, api.MaxLimit)
}

func spanRight(p api.Plan) bool {
	if p.Kind == api.Interval {
		return times.Fits(p.Low) && times.Fits(p.High)
	}
	return p.Low == 0 && p.High == 0
}

func sizeRight(p api.Plan) bool {
	if p.Kind == api.Window {
		return between(p.Size, 1, api.MaxTime)
	}
	return p.Size == 0
}

func countsRight(p api.Plan) bool {
	right := lists.Every([][]int{p.Left, p.Right, p.LKeys, p.RKeys}, func(_ int, l []int) bool {
		return between(len(l), 1, api.MaxCols)
	})
	if !p.Grouped {
		return right && len(p.Group) == 0 && len(p.Aggs) == 0
	}
	return right && between(len(p.Aggs), 1, api.MaxAggs) && len(p.Group) <= api.MaxCells-len(p.Aggs)
}

func typesRight(p api.Plan) bool {
	return lists.Every(sides.Together(p), func(_, column int) bool { return between(column, api.Bool, api.Text) })
}

// formRight, and what it asks, relies on the errors ahead of it having been
// looked for: the lists are short, and the columns have types.
func formRight(p api.Plan) bool {
	return p.Low <= p.High && keysRight(p) && placesRight(p.Group, sides.Together(p)) && aggsRight(p.Aggs, sides.Together(p))
}

func keysRight(p api.Plan) bool {
	return len(p.LKeys) == len(p.RKeys) && placesRight(p.LKeys, p.Left) && placesRight(p.RKeys, p.Right) &&
		lists.Every(p.LKeys, func(at, place int) bool { return p.Left[place] == p.Right[p.RKeys[at]] })
}

// placesRight tells whether each of places is a column's number, and none
// stands there twice.
func placesRight(places, columns []int) bool {
	return lists.Every(places, func(at, place int) bool {
		return isPlace(place, columns) && slices.Index(places, place) == at
	})
}

func isPlace(place int, columns []int) bool { return between(place, 0, len(columns)-1) }

func aggsRight(l []api.Agg, columns []int) bool {
	return lists.Every(l, func(_ int, a api.Agg) bool {
		switch a.Fn {
		case api.CountOf:
			return a.Col == 0
		case api.SumOf:
			return isPlace(a.Col, columns) && columns[a.Col] == api.Int
		}
		return isPlace(a.Col, columns)
	})
}
