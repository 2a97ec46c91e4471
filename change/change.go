// Package change: views and changes: see doc/03-change.md.
package change

import (
	"meetwater/api"
	"meetwater/value"
)

// Check tells what is wrong with a view, if anything is.
func Check(v []api.Count) api.Errno {
	_, e := gather(v)
	return e
}

// Form tells what is wrong with changes, if anything is.
func Form(l []api.Change) api.Errno {
	_, e := keysOf(l)
	return e
}

// Add is the view in which row stands n times more.
func Add(v []api.Count, row []api.Value, n int) ([]api.Count, api.Errno) {
	c, e := gather(v)
	if e != api.OK {
		return nil, e
	}
	key, e := value.Key(row)
	if e != api.OK {
		return nil, e
	}
	if n < -api.MaxCount || n > api.MaxCount {
		return nil, api.ErrRange
	}
	if e := c.add(key, n); e != api.OK {
		return nil, e
	}
	return c.view(), api.OK
}

// Fold is the view that changes make of v; with an error of a change, its place.
func Fold(v []api.Count, l []api.Change) ([]api.Count, int, api.Errno) {
	c, e := gather(v)
	if e != api.OK {
		return nil, 0, e
	}
	keys, e := keysOf(l)
	if e != api.OK {
		return nil, 0, e
	}
	for i, key := range keys {
		if e := c.add(key, more(l[i].Kind)); e != api.OK {
			return nil, i, e
		}
	}
	return c.view(), 0, api.OK
}

// Diff is the changes that make b of a.
func Diff(a, b []api.Count) ([]api.Change, api.Errno) {
	had, e := gather(a)
	if e != api.OK {
		return nil, e
	}
	net, e := gather(b)
	if e != api.OK {
		return nil, e
	}
	for key, n := range had {
		net[key] -= n
	}
	if net.steps() > api.MaxRows {
		return nil, api.ErrMany
	}
	return net.changes(), api.OK
}

// Net is what is left of changes.
func Net(l []api.Change) ([]api.Change, api.Errno) {
	keys, e := keysOf(l)
	if e != api.OK {
		return nil, e
	}
	net := make(counts)
	for i, key := range keys {
		net[key] += more(l[i].Kind)
	}
	return net.changes(), api.OK
}

// Undo is the changes backwards.
func Undo(l []api.Change) ([]api.Change, api.Errno) {
	keys, e := keysOf(l)
	if e != api.OK {
		return nil, e
	}
	back := make([]api.Change, 0, len(l))
	for i := len(l) - 1; i >= 0; i-- {
		back = append(back, api.Change{Kind: turned(l[i].Kind), Row: fresh(keys[i])})
	}
	return back, api.OK
}

// keysOf is the key of each change's row, if the changes are right.
func keysOf(l []api.Change) ([]string, api.Errno) {
	if len(l) > api.MaxRows {
		return nil, api.ErrMany
	}
	keys := make([]string, 0, len(l))
	for i, c := range l {
		if c.Kind < api.Insert || c.Kind > api.After {
			return nil, api.ErrKind
		}
		key, e := value.Key(c.Row)
		if e != api.OK {
			return nil, e
		}
		if !paired(l, i) {
			return nil, api.ErrPair
		}
		keys = append(keys, key)
	}
	return keys, api.OK
}

func paired(l []api.Change, i int) bool {
	switch l[i].Kind {
	case api.Before:
		return i+1 < len(l) && l[i+1].Kind == api.After
	case api.After:
		return i > 0 && l[i-1].Kind == api.Before
	}
	return true
}

// more is how much more often a row stands there behind a change of that kind.
func more(kind int) int {
	if kind == api.Insert || kind == api.After {
		return 1
	}
	return -1
}

func turned(kind int) int {
	switch kind {
	case api.Insert:
		return api.Delete
	case api.Delete:
		return api.Insert
	case api.Before:
		return api.After
	}
	return api.Before
}
