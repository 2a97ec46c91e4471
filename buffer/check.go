package buffer

import (
	"meetwater/api"
	"meetwater/entries"
	"meetwater/lists"
	"meetwater/times"
	"meetwater/value"
)

func limitRight(limit int) bool { return 1 <= limit && limit <= api.MaxLimit }

func countsRight(b api.Buffer) bool { return len(b.Mem) <= b.Limit && entries.Size(b) <= api.MaxRows }

func formRight(b api.Buffer) bool {
	for part := range entries.Parts(b) {
		if !partRight(part) {
			return false
		}
	}
	return !holdsEmptyRun(b) && !holdsTwice(b)
}

func partRight(part []api.Entry) bool {
	return lists.Every(part, func(at int, e api.Entry) bool {
		return entryRight(e) && (at == 0 || byPlace(part[at-1], e) < 0)
	})
}

func entryRight(e api.Entry) bool {
	_, noRow := value.Back(e.Key)
	_, noKey := value.Key(e.Row)
	return noRow == api.OK && noKey == api.OK && times.Fits(e.Time) && 0 <= e.Seq && e.Seq <= api.MaxSeq
}

func holdsEmptyRun(b api.Buffer) bool {
	return !lists.Every(b.Runs, func(_ int, run []api.Entry) bool { return len(run) > 0 })
}

// holdsTwice tells whether two entries have one place: each part rises, but
// they may lie in two of them.
func holdsTwice(b api.Buffer) bool {
	seen := make(map[place]int)
	for e := range entries.All(b) {
		seen[placeOf(e)]++
		if seen[placeOf(e)] > 1 {
			return true
		}
	}
	return false
}
