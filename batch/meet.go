package batch

import (
	"meetwater/api"
	"meetwater/plan"
	"meetwater/sides"
	"meetwater/times"
)

// join tells each joined row by its left and its right cells.
func join(p api.Plan, left, right []api.Stamped, tell func(l, r []api.Value)) {
	lie := placesByKey(p, api.Right, right)
	met := make([]bool, len(right))
	for _, l := range left {
		var partners []int
		if key, has, _ := plan.KeyOf(p, api.Left, l.Row); has {
			partners = partnersOf(p, l, right, lie[key])
		}
		for _, at := range partners {
			met[at] = true
			tell(l.Row, right[at].Row)
		}
		if len(partners) == 0 && sides.Keeps(p.Mode, api.Left) {
			tell(l.Row, sides.Nulls(p, api.Right))
		}
	}
	for at, r := range right {
		if !met[at] && sides.Keeps(p.Mode, api.Right) {
			tell(sides.Nulls(p, api.Left), r.Row)
		}
	}
}

// placesByKey is where the rows of a side stand that have a key.
func placesByKey(p api.Plan, side int, rows []api.Stamped) map[string][]int {
	lie := make(map[string][]int)
	for at, r := range rows {
		if key, has, _ := plan.KeyOf(p, side, r.Row); has {
			lie[key] = append(lie[key], at)
		}
	}
	return lie
}

// partnersOf is where, of the right rows of a left row's key, those stand that
// it is joined with.
func partnersOf(p api.Plan, l api.Stamped, right []api.Stamped, places []int) []int {
	if p.Kind == api.Temporal {
		return versionOf(l, right, places)
	}
	var partners []int
	for _, at := range places {
		if timesMeet(p, l.Time, right[at].Time) {
			partners = append(partners, at)
		}
	}
	return partners
}

// versionOf is where a left row's version stands; no place, if it has none.
func versionOf(l api.Stamped, right []api.Stamped, places []int) []int {
	var best []int
	for _, at := range places {
		if right[at].Time > l.Time {
			continue
		}
		if len(best) == 0 || right[at].Time >= right[best[0]].Time {
			best = []int{at}
		}
	}
	return best
}

func timesMeet(p api.Plan, l, r int) bool {
	if p.Kind == api.Interval {
		is, _ := times.Meets(l, r, p.Low, p.High)
		return is
	}
	a, _, _ := times.Window(l, p.Size)
	b, _, _ := times.Window(r, p.Size)
	return a == b
}
