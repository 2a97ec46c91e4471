// Package cells: rows whose columns have types.
package cells

import (
	"meetwater/api"
	"meetwater/lists"
)

// Typed tells whether there is a cell for each column, Null or of its type.
func Typed(row []api.Value, columns []int) bool {
	return len(row) == len(columns) && lists.Every(row, func(at int, v api.Value) bool {
		return v.Kind == api.Null || v.Kind == columns[at]
	})
}

// Pick is the cells at these places, which the row must have, as a new row.
func Pick(row []api.Value, places []int) []api.Value {
	picked := make([]api.Value, 0, len(places))
	for _, at := range places {
		picked = append(picked, row[at])
	}
	return picked
}

// CheckView tells what is wrong with the rows of a view of these columns, if
// anything is: first of all their numbers of cells, then of all their types.
func CheckView(v []api.Count, columns []int) api.Errno {
	if !lists.Every(v, func(_ int, c api.Count) bool { return len(c.Row) == len(columns) }) {
		return api.ErrMany
	}
	if !lists.Every(v, func(_ int, c api.Count) bool { return Typed(c.Row, columns) }) {
		return api.ErrType
	}
	return api.OK
}
