package buffer

import (
	"cmp"
	"slices"
	"strings"

	"meetwater/api"
	"meetwater/entries"
)

// place is what tells an entry from all others.
type place struct {
	key       string
	time, seq int
}

func placeOf(e api.Entry) place { return place{e.Key, e.Time, e.Seq} }

func byPlace(a, b api.Entry) int {
	return cmp.Or(strings.Compare(a.Key, b.Key), cmp.Compare(a.Time, b.Time), cmp.Compare(a.Seq, b.Seq))
}

func has(b api.Buffer, at place) bool {
	for e := range entries.All(b) {
		if placeOf(e) == at {
			return true
		}
	}
	return false
}

// sorted is the entries that stay, made anew, by rising places.
func sorted(b api.Buffer, stays func(api.Entry) bool) []api.Entry {
	var left []api.Entry
	for e := range entries.All(b) {
		if stays(e) {
			left = append(left, entries.Fresh(e))
		}
	}
	slices.SortFunc(left, byPlace)
	return left
}
