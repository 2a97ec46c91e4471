// Package lists: what several layers ask of lists.
package lists

// Every tells whether is holds of each element, at its place.
func Every[T any](l []T, is func(at int, x T) bool) bool {
	for at, x := range l {
		if !is(at, x) {
			return false
		}
	}
	return true
}
