package code

import (
	"meetwater/api"
	"meetwater/tape"
	"meetwater/value"
)

// readEngine reads what writeEngine writes, and no other bytes; whether the
// engine is right is left to its Check.
func readEngine(r *tape.Reader, limit int) api.Engine {
	var e api.Engine
	e.Join = readJoin(r, limit)
	e.Groups = tape.ReadList(r, func() api.Group { return readGroup(r) })
	e.View = tape.ReadList(r, func() api.Count {
		row := readRow(r)
		return api.Count{Row: row, N: r.Number()}
	})
	return e
}

func readJoin(r *tape.Reader, limit int) api.Join {
	var s api.Join
	s.Left = readBuffer(r, limit)
	s.Right = readBuffer(r, limit)
	s.LMark = r.Number()
	s.RMark = r.Number()
	s.Seq = r.Number()
	return s
}

func readBuffer(r *tape.Reader, limit int) api.Buffer {
	entry := func() api.Entry { return readEntry(r) }
	b := api.Buffer{Limit: limit}
	b.Mem = tape.ReadList(r, entry)
	b.Runs = tape.ReadList(r, func() []api.Entry { return tape.ReadList(r, entry) })
	return b
}

func readEntry(r *tape.Reader) api.Entry {
	var e api.Entry
	e.Key = r.Text()
	e.Time = r.Number()
	e.Seq = r.Number()
	e.Row = readRow(r)
	e.Met = readFlag(r)
	return e
}

func readGroup(r *tape.Reader) api.Group {
	var g api.Group
	g.Row = readRow(r)
	g.N = r.Number()
	g.Bags = tape.ReadList(r, func() []api.Tally {
		return tape.ReadList(r, func() api.Tally { return readTally(r) })
	})
	return g
}

func readTally(r *tape.Reader) api.Tally {
	row := readRow(r)
	r.Must(len(row) == 1)
	return api.Tally{Value: row[0], N: r.Number()}
}

// readRow leaves, if the text is no row's key; each row has one key, and each
// key one row.
func readRow(r *tape.Reader) []api.Value {
	row, e := value.Back(r.Text())
	r.Must(e == api.OK)
	return row
}

func readFlag(r *tape.Reader) bool {
	n := r.Number()
	r.Must(n == 0 || n == 1)
	return n == 1
}
