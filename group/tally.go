package group

import (
	"slices"

	"meetwater/api"
	"meetwater/cells"
	"meetwater/value"
)

// do is the groups, which may be written over, behind one change more.
func do(p api.Plan, g []api.Group, c api.Change) ([]api.Group, api.Errno) {
	own := cells.Pick(c.Row, p.Group)
	at, has := slices.BinarySearchFunc(g, own, func(x api.Group, row []api.Value) int { return value.Rows(x.Row, row) })
	if c.Kind == api.Delete || c.Kind == api.Before {
		if !has || !goes(p, &g[at], c.Row) {
			return nil, api.ErrNone
		}
		if g[at].N == 0 {
			return slices.Delete(g, at, at+1), api.OK
		}
		return g, api.OK
	}
	if !has {
		g = slices.Insert(g, at, api.Group{Row: own, Bags: make([][]api.Tally, len(p.Aggs))})
	}
	comes(p, &g[at], c.Row)
	if g[at].N > api.MaxCount || len(g) > api.MaxRows {
		return nil, api.ErrMany
	}
	return g, api.OK
}

func comes(p api.Plan, x *api.Group, row []api.Value) {
	x.N++
	for i, a := range p.Aggs {
		if a.Fn == api.CountOf {
			continue
		}
		at, has := find(x.Bags[i], row[a.Col])
		if !has {
			x.Bags[i] = slices.Insert(x.Bags[i], at, api.Tally{Value: row[a.Col]})
		}
		x.Bags[i][at].N++
	}
}

// goes tells whether the row was there; if not, the group is as good as lost.
func goes(p api.Plan, x *api.Group, row []api.Value) bool {
	x.N--
	for i, a := range p.Aggs {
		if a.Fn == api.CountOf {
			continue
		}
		at, has := find(x.Bags[i], row[a.Col])
		if !has {
			return false
		}
		x.Bags[i][at].N--
		if x.Bags[i][at].N == 0 {
			x.Bags[i] = slices.Delete(x.Bags[i], at, at+1)
		}
	}
	return true
}

// find tells where a value's tally stands in a bag, or would stand.
func find(bag []api.Tally, v api.Value) (int, bool) {
	return slices.BinarySearchFunc(bag, v, func(t api.Tally, v api.Value) int { return value.Compare(t.Value, v) })
}

// copied is the groups made anew, to be written over.
func copied(g []api.Group) []api.Group {
	next := make([]api.Group, 0, len(g))
	for _, x := range g {
		bags := make([][]api.Tally, 0, len(x.Bags))
		for _, bag := range x.Bags {
			bags = append(bags, append([]api.Tally(nil), bag...))
		}
		next = append(next, api.Group{Row: append([]api.Value(nil), x.Row...), N: x.N, Bags: bags})
	}
	return next
}
