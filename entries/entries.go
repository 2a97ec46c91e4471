// Package entries: what several layers ask of the entries of a buffer.
package entries

import (
	"iter"

	"meetwater/api"
)

// Parts goes through a buffer's memory, then through its runs.
func Parts(b api.Buffer) iter.Seq[[]api.Entry] {
	return func(yield func([]api.Entry) bool) {
		if !yield(b.Mem) {
			return
		}
		for _, run := range b.Runs {
			if !yield(run) {
				return
			}
		}
	}
}

// All goes through all entries, wherever they lie.
func All(b api.Buffer) iter.Seq[api.Entry] {
	return func(yield func(api.Entry) bool) {
		for part := range Parts(b) {
			for _, e := range part {
				if !yield(e) {
					return
				}
			}
		}
	}
}

// Size is how many entries there are.
func Size(b api.Buffer) int {
	n := 0
	for part := range Parts(b) {
		n += len(part)
	}
	return n
}

// Kept is the buffer of the entries that stay, made anew, each where it lay; a
// run of which none stays is there no more.
func Kept(b api.Buffer, stays func(api.Entry) bool) api.Buffer {
	next := api.Buffer{Limit: b.Limit, Mem: keptOf(b.Mem, stays)}
	for _, run := range b.Runs {
		if left := keptOf(run, stays); len(left) > 0 {
			next.Runs = append(next.Runs, left)
		}
	}
	return next
}

func keptOf(l []api.Entry, stays func(api.Entry) bool) []api.Entry {
	var left []api.Entry
	for _, e := range l {
		if stays(e) {
			left = append(left, Fresh(e))
		}
	}
	return left
}

// Always lets each entry stay.
func Always(api.Entry) bool { return true }

// Fresh is the entry with a row of its own: no answer may share the caller's.
func Fresh(e api.Entry) api.Entry {
	e.Row = append([]api.Value(nil), e.Row...)
	return e
}
