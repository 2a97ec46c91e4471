package group

import (
	"cmp"
	"slices"

	"meetwater/api"
	"meetwater/figures"
	"meetwater/value"
)

// rows is the groups' rows; they rise, since groups do.
func rows(p api.Plan, g []api.Group) []api.Count {
	v := make([]api.Count, 0, len(g))
	for _, x := range g {
		row := append(make([]api.Value, 0, len(x.Row)+len(p.Aggs)), x.Row...)
		for i, a := range p.Aggs {
			row = append(row, figures.Of(a.Fn, x.N, x.Bags[i]))
		}
		v = append(v, api.Count{Row: row, N: 1})
	}
	return v
}

// told is the changes that groups' rows tell, which were, and are now; two rows
// are of one group, if their first cells, so many as groups have, are the same.
func told(size int, was, now []api.Count) []api.Change {
	var l []api.Change
	for len(was) > 0 || len(now) > 0 {
		order := first(size, was, now)
		switch {
		case order < 0:
			l = append(l, api.Change{Kind: api.Delete, Row: was[0].Row})
		case order > 0:
			l = append(l, api.Change{Kind: api.Insert, Row: now[0].Row})
		case !slices.Equal(was[0].Row, now[0].Row):
			l = append(l, api.Change{Kind: api.Before, Row: was[0].Row}, api.Change{Kind: api.After, Row: now[0].Row})
		}
		if order <= 0 {
			was = was[1:]
		}
		if order >= 0 {
			now = now[1:]
		}
	}
	return l
}

// first tells which of two lists' first groups comes ahead; one that has none
// comes behind.
func first(size int, was, now []api.Count) int {
	if len(was) == 0 || len(now) == 0 {
		return cmp.Compare(len(now), len(was))
	}
	return value.Rows(was[0].Row[:size], now[0].Row[:size])
}
