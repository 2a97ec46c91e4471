package desk

import (
	"strconv"

	"meetwater/api"
	"meetwater/sides"
	"meetwater/times"
	"meetwater/value"
)

const markWord = "mark"

var sideWords = names{api.Left: "left", api.Right: "right"}

func checkEvent(e api.Event) api.Errno {
	switch {
	case e.Kind != api.RowEvent && e.Kind != api.MarkEvent, !sides.Is(e.Side):
		return api.ErrKind
	case !times.Fits(e.Time):
		return api.ErrRange
	case e.Kind == api.MarkEvent && len(e.Row) > 0:
		return api.ErrForm
	}
	_, f := value.Key(e.Row)
	return f
}

// wordsOfEvent relies on the event's having been found right; a row's cells are
// one word here.
func wordsOfEvent(e api.Event) []string {
	var l []string
	if e.Kind == api.MarkEvent {
		l = append(l, markWord)
	}
	l = append(l, sideWords[e.Side], strconv.Itoa(e.Time))
	if len(e.Row) > 0 {
		l = append(l, showCells(e.Row))
	}
	return l
}

// readEvent leaves it to others to ask whether the time fits.
func readEvent(w *words) api.Event {
	e := api.Event{Kind: api.RowEvent}
	if w.has(markWord) {
		e.Kind = api.MarkEvent
	}
	e.Side = w.one(oneOf(sideWords))
	e.Time = w.one(number)
	if e.Kind == api.RowEvent && !w.ended {
		e.Row = w.cells()
	}
	return e
}

// cells reads all that is left, which must be cells, one at least.
func (w *words) cells() []api.Value {
	row := readCells(w.rest)
	w.rest, w.ended = "", true
	if len(row) == 0 {
		w.wrong = true
	}
	return row
}
