package engine_test

import (
	"math"
	"slices"
	"testing"

	"pivot/api"
	"pivot/engine"
	"pivot/store"
)

// states lets a run go on n times and tells its state behind each.
func states(steps []api.Step, fuel, n int) []int {
	r := engine.Begin(store.Map{})
	out := []int{r.State()}
	for i := 0; i < n; i++ {
		r.Next(steps, fuel)
		out = append(out, r.State())
	}
	return out
}

func wantStates(t *testing.T, steps []api.Step, fuel int, want ...int) {
	t.Helper()
	if got := states(steps, fuel, len(want)-1); !slices.Equal(got, want) {
		t.Errorf("the states of %v with the fuel %d: %v, want %v", steps, fuel, got, want)
	}
}

const (
	running   = api.Running
	committed = api.Committed
	undone    = api.Undone
	faulted   = api.Faulted
)

// A run that comes behind the last step, or to the end of its fuel, ends in
// place of the next step; at an Undo or a fault it ends with that step.
func TestWhenARunEnds(t *testing.T) {
	emit := api.Step{Op: api.Emit}
	undo := api.Step{Op: api.Undo}
	one := api.Step{Op: api.Const, A: 1, B: 1}
	below := api.Step{Op: api.Sub, A: 0, B: 1}
	wantStates(t, nil, 1, running, committed, committed)
	wantStates(t, []api.Step{emit, emit}, 3, running, running, running, committed, committed)
	wantStates(t, []api.Step{emit, emit}, 2, running, running, running, committed, committed)
	wantStates(t, []api.Step{emit, emit}, 1, running, running, faulted, faulted)
	wantStates(t, []api.Step{emit, undo, emit}, 9, running, running, undone, undone)
	wantStates(t, []api.Step{emit, undo}, 2, running, running, undone, undone)
	wantStates(t, []api.Step{emit, undo}, 1, running, running, faulted, faulted)
	wantStates(t, []api.Step{one, below, emit}, 9, running, running, faulted, faulted)
}

// What the run tells and puts can be asked for at every step, and what comes
// out is not touched by what the run does later, nor the other way round.
func TestWhatARunShowsOnItsWay(t *testing.T) {
	steps := []api.Step{
		{Op: api.Const, A: 0, B: 7},
		{Op: api.Emit, A: 0},
		{Op: api.Put, A: 4, B: 0},
		{Op: api.Emit, A: 0},
		{Op: api.Del, A: 2},
	}
	start, _ := store.FromPairs([]api.Pair{{Key: 2, Value: 1}})
	r := engine.Begin(start)
	tolds := [][]int{}
	views := []store.Map{}
	for range steps {
		r.Next(steps, 5)
		tolds = append(tolds, r.Told())
		views = append(views, r.View())
	}
	wantTolds := [][]int{{}, {7}, {7}, {7, 7}, {7, 7}}
	wantViews := [][]api.Pair{{{Key: 2, Value: 1}}, {{Key: 2, Value: 1}}, {{Key: 2, Value: 1}, {Key: 4, Value: 7}}, {{Key: 2, Value: 1}, {Key: 4, Value: 7}}, {{Key: 4, Value: 7}}}
	for i := range steps {
		if !slices.Equal(tolds[i], wantTolds[i]) || !slices.Equal(views[i].Pairs(), wantViews[i]) {
			t.Errorf("behind step %d: told %v, view %v, want %v, %v", i, tolds[i], views[i].Pairs(), wantTolds[i], wantViews[i])
		}
	}
	tolds[4][0] = 99
	if got := r.Told(); !slices.Equal(got, []int{7, 7}) {
		t.Errorf("what was written into a list changed what was told to %v", got)
	}
	if got := start.Pairs(); !slices.Equal(got, []api.Pair{{Key: 2, Value: 1}}) {
		t.Errorf("the run changed the map over which it began to %v", got)
	}
}

// Steps that are no job must not be handed in; were it done, it would not
// panic: registers that are none are 0 and stay so.
func TestStepsThatAreNoJob(t *testing.T) {
	for _, n := range []int{math.MinInt, -5, -4, -1, 4, 5, 8, math.MaxInt} {
		steps := []api.Step{
			{Op: api.Const, A: n, B: 7}, {Op: api.Add, A: n, B: n}, {Op: api.Sub, A: 0, B: n}, {Op: api.Emit, A: n}, {Op: api.Put, A: 3, B: n},
			{Op: n, A: n, B: n, C: n}, {Op: 13, A: n, B: n, C: n}, {Op: api.Emit, A: 0},
		}
		r := engine.Begin(store.Map{})
		for range 9 {
			r.Next(steps, 200)
		}
		view := r.View()
		if r.State() != committed || !slices.Equal(r.Told(), []int{0, 0}) || !slices.Equal(view.Pairs(), []api.Pair{{Key: 3, Value: 0}}) {
			t.Errorf("with the register %d: %d, told %v, view %v", n, r.State(), r.Told(), view.Pairs())
		}
	}
}
