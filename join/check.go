package join

import (
	"meetwater/api"
	"meetwater/entries"
	"meetwater/plan"
	"meetwater/sides"
	"meetwater/times"
)

func rangesRight(s api.Join) bool {
	return markRight(s.LMark) && markRight(s.RMark) && 0 <= s.Seq && s.Seq <= api.MaxSeq
}

func markRight(mark int) bool { return mark == api.NoMark || times.Fits(mark) }

// formRight relies on both buffers being right each on its own.
func formRight(p api.Plan, s api.Join) bool {
	return s.Left.Limit == p.Limit && s.Right.Limit == p.Limit && seqsRight(s) &&
		rowsRight(p, api.Left, s.Left) && rowsRight(p, api.Right, s.Right)
}

// seqsRight tells whether each entry came ahead of the next one to come, and no
// two at once.
func seqsRight(s api.Join) bool {
	came := make(map[int]int)
	for _, b := range []api.Buffer{s.Left, s.Right} {
		for e := range entries.All(b) {
			came[e.Seq]++
			if e.Seq >= s.Seq || came[e.Seq] > 1 {
				return false
			}
		}
	}
	return true
}

func rowsRight(p api.Plan, side int, b api.Buffer) bool {
	for e := range entries.All(b) {
		key, has, f := plan.KeyOf(p, side, e.Row)
		if f != api.OK || !has || key != e.Key {
			return false
		}
	}
	return true
}

// checkEvent tells what keeps an event from being taken, if anything does.
func checkEvent(p api.Plan, s api.Join, e api.Event) api.Errno {
	if e.Kind != api.RowEvent && e.Kind != api.MarkEvent || !sides.Is(e.Side) {
		return api.ErrKind
	}
	if !times.Fits(e.Time) {
		return api.ErrRange
	}
	if e.Kind == api.MarkEvent {
		return checkMark(s, e)
	}
	return checkRow(p, s, e)
}

func checkMark(s api.Join, e api.Event) api.Errno {
	if len(e.Row) > 0 {
		return api.ErrForm
	}
	if e.Time < *markOf(&s, e.Side) {
		return api.ErrBack
	}
	return api.OK
}

func checkRow(p api.Plan, s api.Join, e api.Event) api.Errno {
	if f := plan.Row(p, e.Side, e.Row); f != api.OK {
		return f
	}
	if e.Time <= *markOf(&s, e.Side) {
		return api.ErrLate
	}
	if s.Seq == api.MaxSeq || entries.Size(*bufferOf(&s, e.Side)) == api.MaxRows {
		return api.ErrMany
	}
	return api.OK
}
