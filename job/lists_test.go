package job_test

import (
	"slices"
	"testing"

	"pivot/api"
	"pivot/job"
)

// busy is a job that tells, puts and deletes, made for the map busyMap; it ends
// as Committed, unless steps that end otherwise are laid behind it.
func busy(end ...api.Step) []api.Step {
	return append([]api.Step{step(api.Get, 0, 2), step(api.Emit, 0), step(api.Put, 1, 0), step(api.Emit, 0), step(api.Del, 4), step(api.Emit, 0)}, end...)
}

func busyMap() []api.Pair { return pairs(2, 7, 4, 1) }

// ends are the ways in which a busy job can end, with the map behind each.
func ends() []struct {
	steps  []api.Step
	state  int
	behind []api.Pair
} {
	return []struct {
		steps  []api.Step
		state  int
		behind []api.Pair
	}{
		{busy(), api.Committed, pairs(1, 7, 2, 7)},
		{busy(step(api.Undo)), api.Undone, busyMap()},
		{busy(step(api.Sub, 1, 0)), api.Faulted, busyMap()},
	}
}

// P2: neither the lists nor their spare room are written into, and what stands
// in the spare room counts for nothing.
func TestRunLeavesTheListsAlone(t *testing.T) {
	for _, c := range ends() {
		spareSteps := []api.Step{step(api.Undo), step(99, 1, 2, 3)}
		wholeSteps := slices.Concat(c.steps, spareSteps)
		sparePairs := pairs(5, 5, -9, -9, 99, 99)
		wholeMap := slices.Concat(busyMap(), sparePairs)
		wantRun(t, wholeSteps[:len(c.steps)], wholeMap[:2], 9, c.state, told(7, 7, 7), c.behind)
		if !slices.Equal(wholeSteps, slices.Concat(c.steps, spareSteps)) {
			t.Errorf("Run changed the steps to %v", wholeSteps)
		}
		if !slices.Equal(wholeMap, slices.Concat(busyMap(), sparePairs)) {
			t.Errorf("Run changed the map that was handed in to %v", wholeMap)
		}
	}
}

// P2: with an error, too, nothing is written into.
func TestRunLeavesTheListsAloneWithAnError(t *testing.T) {
	steps := busy()
	for _, m := range noMaps() {
		before := slices.Clone(m)
		wantRefused(t, steps, m, 9, api.ErrMap)
		if !slices.Equal(m, before) || !slices.Equal(steps, busy()) {
			t.Errorf("Run changed what was handed in to %v, %v", steps, m)
		}
	}
}

// P2: what comes out is the caller's, with its spare room: writing into it
// changes neither what was handed in nor what comes out of other calls.
func TestRunAnswersFreshLists(t *testing.T) {
	for _, c := range ends() {
		m := busyMap()
		first, firstMap, _ := job.Run(c.steps, m, 9)
		second, secondMap, _ := job.Run(c.steps, m, 9)
		spoilInts(first.Told)
		spoilPairs(firstMap)
		if !slices.Equal(m, busyMap()) {
			t.Errorf("what was written into the map behind the run changed the one ahead of it to %v", m)
		}
		if !slices.Equal(second.Told, told(7, 7, 7)) || !slices.Equal(secondMap, c.behind) {
			t.Errorf("what was written into one answer changed another to %v, %v", second.Told, secondMap)
		}
		wantRun(t, c.steps, m, 9, c.state, told(7, 7, 7), c.behind)
	}
}

func spoilInts(l []int) {
	l = l[:cap(l)]
	for i := range l {
		l[i] = -77
	}
}

func spoilPairs(l []api.Pair) {
	l = l[:cap(l)]
	for i := range l {
		l[i] = api.Pair{Key: -77, Value: -77}
	}
}

// P2: what the owner of a list writes into it later changes no answer.
func TestRunKeepsNoList(t *testing.T) {
	for _, c := range ends() {
		steps := slices.Clone(c.steps)
		m := busyMap()
		o, after, _ := job.Run(steps, m, 9)
		for i := range steps {
			steps[i] = step(api.Undo)
		}
		spoilPairs(m)
		if o.State != c.state || !slices.Equal(o.Told, told(7, 7, 7)) || !slices.Equal(after, c.behind) {
			t.Errorf("what was written into the lists later changed the answer to %+v, %v", o, after)
		}
		wantRun(t, c.steps, busyMap(), 9, c.state, told(7, 7, 7), c.behind)
	}
}

// P2: the answer hangs on the arguments alone, not on earlier calls.
func TestRunForgetsEarlierCalls(t *testing.T) {
	for _, earlier := range ends() {
		for _, c := range ends() {
			job.Run(earlier.steps, pairs(0, 1, 2, 3, 9, 9), 9)
			job.Run(earlier.steps, nil, 2)
			job.Run(earlier.steps, pairs(9, -1), 9)
			wantRun(t, c.steps, busyMap(), 9, c.state, told(7, 7, 7), c.behind)
		}
	}
}
