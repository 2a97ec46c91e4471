package keep

import (
	"meetwater/api"
	"meetwater/code"
	"meetwater/disk"
	"meetwater/tape"
)

// Records take turns in the slots: while one is written, the last one lies in
// the other slot, where nothing happens to it.
const slots = 2

// The steps of a save: the frame is written, and synced.
const (
	toWritten = 1
	toSynced  = 2
)

func slotOf(number int) int { return number % slots }

type record struct {
	number, done int
	engine       api.Engine
}

// recordOf is the record that a slot's text is, if it is one.
func recordOf(p api.Plan, slot int, text string) (record, bool) {
	body, e := code.Open(text)
	if e != api.OK {
		return record{}, false
	}
	var found record
	right := tape.Read(body, func(r *tape.Reader) { found = readRecord(r, p, slot) })
	return found, right
}

func readRecord(r *tape.Reader, p api.Plan, slot int) record {
	number := r.Number()
	r.Must(number >= 1 && slotOf(number) == slot)
	done := r.Number()
	r.Must(done >= 0)
	made, e := code.Read(p, r.Rest())
	r.Must(e == api.OK)
	return record{number: number, done: done, engine: made}
}

// frameOf is the frame of a record, of an engine's bytes.
func frameOf(number, done int, engine string) (string, api.Errno) {
	var w tape.Writer
	w.Number(number)
	w.Number(done)
	w.Raw(engine)
	return code.Frame(w.Bytes())
}

// saved relies on the disk's having such a slot. Without a step it is a disk
// like the one handed in, but no part of it.
func saved(d api.Disk, slot int, frame string, steps int) api.Disk {
	next := api.Disk{Slots: append([]api.Slot(nil), d.Slots...)}
	if steps >= toWritten {
		next, _ = disk.Write(next, slot, frame)
	}
	if steps >= toSynced {
		next, _ = disk.Sync(next, slot)
	}
	return next
}
