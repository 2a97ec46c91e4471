package batch

import (
	"meetwater/api"
	"meetwater/cells"
	"meetwater/change"
	"meetwater/lists"
	"meetwater/plan"
	"meetwater/sides"
	"meetwater/times"
)

// checkRows tells what keeps rows from being joined, if anything does.
func checkRows(p api.Plan, left, right []api.Stamped) api.Errno {
	if e := plan.Check(p); e != api.OK {
		return e
	}
	if len(left)+len(right) > api.MaxBatch {
		return api.ErrMany
	}
	if !timesFit(left) || !timesFit(right) {
		return api.ErrRange
	}
	if e := mayComeIn(p, api.Left, left); e != api.OK {
		return e
	}
	return mayComeIn(p, api.Right, right)
}

func timesFit(rows []api.Stamped) bool {
	return lists.Every(rows, func(_ int, r api.Stamped) bool { return times.Fits(r.Time) })
}

func mayComeIn(p api.Plan, side int, rows []api.Stamped) api.Errno {
	for _, r := range rows {
		if e := plan.Row(p, side, r.Row); e != api.OK {
			return e
		}
	}
	return api.OK
}

// checkView tells what keeps a view from being grouped, if anything does.
func checkView(p api.Plan, v []api.Count) api.Errno {
	if e := plan.Check(p); e != api.OK {
		return e
	}
	if !p.Grouped {
		return api.ErrForm
	}
	if e := change.Check(v); e != api.OK {
		return e
	}
	return cells.CheckView(v, sides.Together(p))
}
