// Package job: jobs, and what one does that runs alone: see DOC.md.
package job

import (
	"pivot/api"
	"pivot/engine"
	"pivot/store"
)

// Check tells whether steps are a job (P3).
func Check(steps []api.Step) api.Errno {
	if len(steps) > api.MaxSteps {
		return api.ErrJob
	}
	for i, s := range steps {
		if !isStep(s, i, len(steps)-1-i) {
			return api.ErrJob
		}
	}
	return api.OK
}

// Run runs a job alone over a map (P4).
func Run(steps []api.Step, m []api.Pair, fuel int) (api.Outcome, []api.Pair, api.Errno) {
	if Check(steps) != api.OK {
		return api.Outcome{}, nil, api.ErrJob
	}
	values, isMap := store.FromPairs(m)
	if !isMap {
		return api.Outcome{}, nil, api.ErrMap
	}
	if !isWithin(fuel, 1, api.MaxFuel) {
		return api.Outcome{}, nil, api.ErrFuel
	}
	r := runToEnd(steps, values, fuel)
	r.Apply(&values)
	state := r.State()
	told := r.Told()
	return api.Outcome{State: state, Told: told, Tries: 1}, values.Pairs(), api.OK
}

// runToEnd is the job's run, ended: behind the last step that the fuel allows
// there is one more thing to do at most, which is to end.
func runToEnd(steps []api.Step, start store.Map, fuel int) engine.Run {
	r := engine.Begin(start)
	for i := 0; i <= api.MaxFuel; i++ {
		r.Next(steps, fuel)
	}
	return r
}
