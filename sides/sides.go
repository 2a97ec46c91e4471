// Package sides: what several layers ask of the two sides of a join.
package sides

import (
	"slices"

	"meetwater/api"
)

// Is tells whether there is such a side.
func Is(side int) bool { return side == api.Left || side == api.Right }

// Other is the other side of one.
func Other(side int) int { return api.Left + api.Right - side }

// Columns is the types of a side's columns.
func Columns(p api.Plan, side int) []int {
	if side == api.Right {
		return p.Right
	}
	return p.Left
}

// Together is the types of a joined row's columns.
func Together(p api.Plan) []int { return slices.Concat(p.Left, p.Right) }

// Keeps tells whether a mode keeps the rows of a side that meet none.
func Keeps(mode, side int) bool {
	switch mode {
	case api.LeftOuter:
		return side == api.Left
	case api.RightOuter:
		return side == api.Right
	}
	return mode == api.FullOuter
}

// Joined is a row of a side and one of the other side, as one row: the left
// cells stand first.
func Joined(side int, row, other []api.Value) []api.Value {
	if side == api.Right {
		row, other = other, row
	}
	return slices.Concat(row, other)
}

// Nulls stand for the cells of a side; a Null is a value without anything.
func Nulls(p api.Plan, side int) []api.Value { return make([]api.Value, len(Columns(p, side))) }
