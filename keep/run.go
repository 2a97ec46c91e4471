package keep

import (
	"meetwater/api"
	"meetwater/disk"
	"meetwater/engine"
	"meetwater/lists"
	"meetwater/plan"
)

func checkRun(p api.Plan, l []api.Event, acts []api.Act) api.Errno {
	if e := plan.Check(p); e != api.OK {
		return e
	}
	if len(l) > api.MaxEvents || len(acts) > api.MaxEvents {
		return api.ErrMany
	}
	if !lists.Every(acts, func(_ int, a api.Act) bool { return api.ActNext <= a.Kind && a.Kind <= api.ActCrash }) {
		return api.ErrKind
	}
	return api.OK
}

// run is an engine on its way, and the disk it is saved on.
type run struct {
	plan    api.Plan
	events  []api.Event
	disk    api.Disk
	engine  api.Engine
	done    int // of the events, how many the engine has seen
	stepped int // how many were stepped in all, again or not
}

// runOf, and what it asks, relies on the plan's having been found right.
func runOf(p api.Plan, l []api.Event) *run {
	d, _ := disk.New(slots)
	start, _ := engine.Start(p)
	return &run{plan: p, events: l, disk: d, engine: start}
}

func (r *run) act(a api.Act) {
	switch a.Kind {
	case api.ActNext:
		if r.hasNext() {
			r.next()
		}
	case api.ActSave:
		r.save(toSynced)
	default:
		r.crash(a)
	}
}

func (r *run) hasNext() bool { return r.done < len(r.events) }

func (r *run) next() {
	if next, _, e := engine.Step(r.plan, r.engine, r.events[r.done]); e == api.OK {
		r.engine = next
	}
	r.done++
	r.stepped++
}

// save leaves the disk as it is, if there is too much to be saved.
func (r *run) save(steps int) {
	if next, e := Save(r.plan, r.disk, r.engine, r.done, steps); e == api.OK {
		r.disk = next
	}
}

func (r *run) crash(a api.Act) {
	r.save(a.Steps)
	r.disk, _ = disk.Crash(r.disk, a.Cuts)
	r.engine, r.done, _, _ = Load(r.plan, r.disk)
}
