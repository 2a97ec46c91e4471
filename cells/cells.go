// Package cells: rows whose columns have types.
package cells

import (
	"meetwater/api"
	"meetwater/lists"
)

// Typed tells whether there is a cell for each column, Null or of its type.
func Typed(row []api.Value, columns []int) bool {
	return len(row) == len(columns) && lists.Every(row, func(at int, v api.Value) bool {
		return v.Kind == api.Null || v.Kind == columns[at]
	})
}

// Pick is the cells at these places, which the row must have, as a new row.
func Pick(row []api.Value, places []int) []api.Value {
	picked := make([]api.Value, 0, len(places))
	for _, at := range places {
		picked = append(picked, row[at])
	}
	return picked
}
