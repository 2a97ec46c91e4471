package change

import (
	"maps"
	"slices"

	"meetwater/api"
	"meetwater/value"
)

// counts is how often rows stand there, by their keys. Keys stand in the order
// of rows, so whoever goes through them sorted goes through rising rows.
type counts map[string]int

// gather is the counts of a view, if the view is right.
func gather(v []api.Count) (counts, api.Errno) {
	if len(v) > api.MaxRows {
		return nil, api.ErrMany
	}
	c := make(counts, len(v))
	for i, r := range v {
		key, e := value.Key(r.Row)
		if e != api.OK || r.N < 1 || r.N > api.MaxCount {
			return nil, api.ErrForm
		}
		if i > 0 && value.Rows(v[i-1].Row, r.Row) >= 0 {
			return nil, api.ErrForm
		}
		c[key] = r.N
	}
	return c, api.OK
}

// add lets a row stand there n times more, and keeps c a view's.
func (c counts) add(key string, n int) api.Errno {
	had := c[key]
	now := had + n
	switch {
	case now < 0:
		return api.ErrNone
	case now > api.MaxCount:
		return api.ErrMany
	case now == 0:
		delete(c, key)
		return api.OK
	case had == 0 && len(c) == api.MaxRows:
		return api.ErrMany
	}
	c[key] = now
	return api.OK
}

// each tells of all rows, by rising rows.
func (c counts) each(tell func(key string, n int)) {
	for _, key := range slices.Sorted(maps.Keys(c)) {
		tell(key, c[key])
	}
}

func (c counts) view() []api.Count {
	v := make([]api.Count, 0, len(c))
	c.each(func(key string, n int) {
		v = append(v, api.Count{Row: fresh(key), N: n})
	})
	return v
}

// changes takes counts below 0 for rows that go, those above for rows that come.
func (c counts) changes() []api.Change {
	var deletes, inserts []api.Change
	c.each(func(key string, n int) {
		for range -n {
			deletes = append(deletes, api.Change{Kind: api.Delete, Row: fresh(key)})
		}
		for range n {
			inserts = append(inserts, api.Change{Kind: api.Insert, Row: fresh(key)})
		}
	})
	return append(deletes, inserts...)
}

// steps is how many changes there would be, told without making them: they may
// be more than there is room for.
func (c counts) steps() int {
	sum := 0
	for _, n := range c {
		sum += max(n, -n)
	}
	return sum
}

// fresh is the row of a key, made anew each time: no two rows of an answer may
// share memory, nor may one be the caller's.
func fresh(key string) []api.Value {
	row, _ := value.Back(key)
	return row
}
