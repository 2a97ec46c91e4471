package batch

import (
	"meetwater/api"
	"meetwater/figures"
)

// figure is what a group's rows come to; each counts as often as it stands there.
func figure(a api.Agg, rows []api.Count) api.Value {
	n := 0
	bag := make([]api.Tally, 0, len(rows))
	for _, c := range rows {
		n += c.N
		bag = append(bag, api.Tally{Value: c.Row[a.Col], N: c.N})
	}
	return figures.Of(a.Fn, n, bag)
}
