package engine

import (
	"meetwater/api"
	"meetwater/cells"
	"meetwater/change"
	"meetwater/group"
	"meetwater/plan"
)

func checkGroups(p api.Plan, g []api.Group) api.Errno {
	if p.Grouped {
		return group.Check(p, g)
	}
	if len(g) > 0 {
		return api.ErrForm
	}
	return api.OK
}

// checkView relies on the plan's having been found right.
func checkView(p api.Plan, v []api.Count) api.Errno {
	if e := change.Check(v); e != api.OK {
		return e
	}
	columns, _ := plan.Out(p)
	return cells.CheckView(v, columns)
}
