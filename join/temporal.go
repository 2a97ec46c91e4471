package join

import (
	"sort"

	"meetwater/api"
	"meetwater/buffer"
	"meetwater/entries"
	"meetwater/sides"
)

// temporal is the kind of which right rows are versions.
type temporal struct{ common }

func (k *temporal) meet(r comer) bool {
	if r.side == api.Left {
		return k.askVersion(r)
	}
	k.newVersion(r)
	return false
}

// askVersion joins a left row with its version, and tells whether it has one.
func (k *temporal) askVersion(r comer) bool {
	versions := k.waiting(r, -api.MaxTime, r.time)
	if len(versions) > 0 {
		k.insert(sides.Joined(r.side, r.row, versions[len(versions)-1].Row))
		return true
	}
	if sides.Keeps(k.plan.Mode, api.Left) {
		k.insert(k.alone(r.side, r.row))
	}
	return false
}

// newVersion joins with a right row all left ones whose version it is now.
func (k *temporal) newVersion(r comer) {
	versions, _ := buffer.Scan(k.join.Right, r.key, -api.MaxTime, api.MaxTime)
	var met []api.Entry
	for _, e := range k.waiting(r, r.time, api.MaxTime) {
		old := upTo(versions, e.Time)
		if len(old) > 0 && old[len(old)-1].Time > r.time {
			continue
		}
		met = append(met, e)
		both := sides.Joined(r.side, r.row, e.Row)
		switch {
		case len(old) > 0:
			k.turn(sides.Joined(api.Left, e.Row, old[len(old)-1].Row), both)
		case sides.Keeps(k.plan.Mode, api.Left):
			k.turn(k.alone(api.Left, e.Row), both)
		default:
			k.insert(both)
		}
	}
	k.nowMet(api.Left, met)
}

// upTo is those of versions, whose times rise, that are not behind a time.
func upTo(versions []api.Entry, time int) []api.Entry {
	return versions[:sort.Search(len(versions), func(at int) bool { return versions[at].Time > time })]
}

// forget also takes the versions that later ones stand in for: neither side has
// anybody to come at, or ahead of, the lesser mark. (Of a side without a mark
// that is ahead of all times.)
func (k *temporal) forget() {
	k.common.forget()
	lesser := min(k.join.LMark, k.join.RMark)
	all, _ := buffer.All(k.join.Right)
	last := make(map[string]int)
	for _, e := range all {
		if e.Time <= lesser {
			last[e.Key] = e.Seq
		}
	}
	k.join.Right = entries.Kept(k.join.Right, func(e api.Entry) bool {
		return e.Time > lesser || last[e.Key] == e.Seq
	})
}
