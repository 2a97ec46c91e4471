// Package value: values, rows and their keys: see doc/01-value.md.
package value

import (
	"cmp"
	"slices"
	"strings"

	"meetwater/api"
)

// Check tells what is wrong with a value, if anything is.
func Check(v api.Value) api.Errno {
	var right bool
	switch v.Kind {
	case api.Null:
		right = v == api.Value{}
	case api.Bool:
		right = v == api.Value{Kind: api.Bool} || v == api.Value{Kind: api.Bool, N: 1}
	case api.Int:
		right = v == api.Value{Kind: api.Int, N: v.N}
	case api.Text:
		right = v == api.Value{Kind: api.Text, S: v.S}
	default:
		return api.ErrKind
	}
	if !right {
		return api.ErrForm
	}
	if len(v.S) > api.MaxText {
		return api.ErrMany
	}
	return api.OK
}

// Compare tells which of two values comes ahead, whether they are right or not.
func Compare(a, b api.Value) int {
	return first(cmp.Compare(a.Kind, b.Kind), cmp.Compare(a.N, b.N), strings.Compare(a.S, b.S))
}

// Rows tells which of two rows comes ahead, whether they are right or not.
func Rows(a, b []api.Value) int { return slices.CompareFunc(a, b, Compare) }

// first is the first of the orders that tells two things apart.
func first(orders ...int) int {
	for _, order := range orders {
		if order != 0 {
			return order
		}
	}
	return 0
}
