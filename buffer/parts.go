package buffer

import (
	"cmp"
	"iter"
	"slices"
	"strings"

	"meetwater/api"
)

// place is what tells an entry from all others.
type place struct {
	key       string
	time, seq int
}

func placeOf(e api.Entry) place { return place{e.Key, e.Time, e.Seq} }

func byPlace(a, b api.Entry) int {
	return cmp.Or(strings.Compare(a.Key, b.Key), cmp.Compare(a.Time, b.Time), cmp.Compare(a.Seq, b.Seq))
}

// parts goes through a buffer's memory, then through its runs.
func parts(b api.Buffer) iter.Seq[[]api.Entry] {
	return func(yield func([]api.Entry) bool) {
		if !yield(b.Mem) {
			return
		}
		for _, run := range b.Runs {
			if !yield(run) {
				return
			}
		}
	}
}

// entries goes through all entries, wherever they lie.
func entries(b api.Buffer) iter.Seq[api.Entry] {
	return func(yield func(api.Entry) bool) {
		for part := range parts(b) {
			for _, e := range part {
				if !yield(e) {
					return
				}
			}
		}
	}
}

func size(b api.Buffer) int {
	n := 0
	for part := range parts(b) {
		n += len(part)
	}
	return n
}

func has(b api.Buffer, at place) bool {
	for e := range entries(b) {
		if placeOf(e) == at {
			return true
		}
	}
	return false
}

func always(api.Entry) bool { return true }

// kept is the buffer of the entries that stay, made anew, each where it lay.
func kept(b api.Buffer, stays func(api.Entry) bool) api.Buffer {
	next := api.Buffer{Limit: b.Limit, Mem: keptOf(b.Mem, stays)}
	for _, run := range b.Runs {
		if left := keptOf(run, stays); len(left) > 0 {
			next.Runs = append(next.Runs, left)
		}
	}
	return next
}

func keptOf(l []api.Entry, stays func(api.Entry) bool) []api.Entry {
	var left []api.Entry
	for _, e := range l {
		if stays(e) {
			left = append(left, fresh(e))
		}
	}
	return left
}

// sorted is the entries that stay, made anew, by rising places.
func sorted(b api.Buffer, stays func(api.Entry) bool) []api.Entry {
	var left []api.Entry
	for part := range parts(b) {
		left = append(left, keptOf(part, stays)...)
	}
	slices.SortFunc(left, byPlace)
	return left
}

// fresh is the entry with a row of its own: no answer may share the caller's.
func fresh(e api.Entry) api.Entry {
	e.Row = append([]api.Value(nil), e.Row...)
	return e
}
