// Package engine: the run of a job over a map, step by step.
package engine

import (
	"pivot/api"
	"pivot/keys"
	"pivot/store"
)

// Run is how far a run has come. It sees what it put and deleted itself; the
// map over which it began stays as it was.
type Run struct {
	state     int // Running, until it has ended
	at        int // the step at which it stands
	done      int // how many steps it has done
	registers [api.Regs]int
	view      store.Map
	read      keys.Set // the keys for which it asked while they were not in wrote
	wrote     keys.Set // the keys that it put or deleted
	told      []int
}

// Begin begins a run over m.
func Begin(m store.Map) Run {
	return Run{state: api.Running, view: m}
}

// State is Running, or the state with which the run ended.
func (r *Run) State() int {
	return r.state
}

// Told is what the run told, as a fresh list.
func (r *Run) Told() []int {
	return append([]int{}, r.told...)
}

// Read is the keys that the run read: those that it saw as they were when it
// began.
func (r *Run) Read() keys.Set {
	return r.read
}

// Wrote is the keys that the run put or deleted; none, unless it ended as
// Committed.
func (r *Run) Wrote() keys.Set {
	if r.state != api.Committed {
		return keys.Set{}
	}
	return r.wrote
}

// Apply does to m what the run put and deleted, if it ended as Committed. The
// other keys stay as they are in m: others may have changed them since the run
// began.
func (r *Run) Apply(m *store.Map) {
	wrote := r.Wrote()
	for key := 0; key < api.Keys; key++ {
		if wrote.Has(key) {
			m.Take(key, &r.view)
		}
	}
}

// Next lets the run end, or do the step at which it stands. The steps must be
// a job, and at every call of a run the steps and the fuel must be the same:
// the run does not keep them. Behind the end of the run nothing happens.
func (r *Run) Next(steps []api.Step, fuel int) {
	if r.state != api.Running {
		return
	}
	if r.at < 0 || r.at >= len(steps) {
		r.state = api.Committed
		return
	}
	if r.done >= fuel {
		r.state = api.Faulted
		return
	}
	s := steps[r.at]
	r.done++
	r.at++
	r.do(s)
}
