// Package job: jobs, and what one does that runs alone: see DOC.md.
package job

import "pivot/api"

// Check tells whether steps are a job (P3).
func Check(steps []api.Step) api.Errno {
	if len(steps) > api.MaxSteps {
		return api.ErrJob
	}
	for i, s := range steps {
		if !isStep(s, i, len(steps)-1-i) {
			return api.ErrJob
		}
	}
	return api.OK
}

// Run runs a job alone over a map (P4).
func Run(steps []api.Step, m []api.Pair, fuel int) (api.Outcome, []api.Pair, api.Errno) {
	return api.Outcome{}, nil, api.OK
}
