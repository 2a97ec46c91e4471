package code

import (
	"meetwater/api"
	"meetwater/tape"
	"meetwater/value"
)

// writeEngine, and what it asks, relies on the engine's having been found
// right: each row has a key.
func writeEngine(w *tape.Writer, e api.Engine) {
	writeJoin(w, e.Join)
	tape.WriteList(w, e.Groups, func(g api.Group) { writeGroup(w, g) })
	tape.WriteList(w, e.View, func(c api.Count) {
		writeRow(w, c.Row)
		w.Number(c.N)
	})
}

func writeJoin(w *tape.Writer, s api.Join) {
	writeBuffer(w, s.Left)
	writeBuffer(w, s.Right)
	w.Number(s.LMark)
	w.Number(s.RMark)
	w.Number(s.Seq)
}

// writeBuffer leaves out the limit, which is the plan's.
func writeBuffer(w *tape.Writer, b api.Buffer) {
	entry := func(e api.Entry) { writeEntry(w, e) }
	tape.WriteList(w, b.Mem, entry)
	tape.WriteList(w, b.Runs, func(run []api.Entry) { tape.WriteList(w, run, entry) })
}

func writeEntry(w *tape.Writer, e api.Entry) {
	w.Text(e.Key)
	w.Number(e.Time)
	w.Number(e.Seq)
	writeRow(w, e.Row)
	writeFlag(w, e.Met)
}

func writeGroup(w *tape.Writer, g api.Group) {
	writeRow(w, g.Row)
	w.Number(g.N)
	tape.WriteList(w, g.Bags, func(bag []api.Tally) {
		tape.WriteList(w, bag, func(t api.Tally) {
			writeRow(w, []api.Value{t.Value})
			w.Number(t.N)
		})
	})
}

func writeRow(w *tape.Writer, row []api.Value) {
	key, _ := value.Key(row)
	w.Text(key)
}

func writeFlag(w *tape.Writer, is bool) {
	if is {
		w.Number(1)
	} else {
		w.Number(0)
	}
}
