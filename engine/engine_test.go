package engine_test

import (
	"math"
	"slices"
	"testing"

	"pivot/api"
	"pivot/engine"
	"pivot/store"
)

// states lets a run go on n times and tells its state behind each.
func states(steps []api.Step, fuel, n int) []int {
	r := engine.Begin(store.Map{})
	out := []int{r.State()}
	for i := 0; i < n; i++ {
		r.Next(steps, fuel)
		out = append(out, r.State())
	}
	return out
}

func wantStates(t *testing.T, steps []api.Step, fuel int, want ...int) {
	t.Helper()
	if got := states(steps, fuel, len(want)-1); !slices.Equal(got, want) {
		t.Errorf("the states of %v with the fuel %d: %v, want %v", steps, fuel, got, want)
	}
}

const (
	running   = api.Running
	committed = api.Committed
	undone    = api.Undone
	faulted   = api.Faulted
)

// A run that comes behind the last step, or to the end of its fuel, ends in
// place of the next step; at an Undo or a fault it ends with that step.
func TestWhenARunEnds(t *testing.T) {
	emit := api.Step{Op: api.Emit}
	undo := api.Step{Op: api.Undo}
	one := api.Step{Op: api.Const, A: 1, B: 1}
	below := api.Step{Op: api.Sub, A: 0, B: 1}
	wantStates(t, nil, 1, running, committed, committed)
	wantStates(t, []api.Step{emit, emit}, 3, running, running, running, committed, committed)
	wantStates(t, []api.Step{emit, emit}, 2, running, running, running, committed, committed)
	wantStates(t, []api.Step{emit, emit}, 1, running, running, faulted, faulted)
	wantStates(t, []api.Step{emit, undo, emit}, 9, running, running, undone, undone)
	wantStates(t, []api.Step{emit, undo}, 2, running, running, undone, undone)
	wantStates(t, []api.Step{emit, undo}, 1, running, running, faulted, faulted)
	wantStates(t, []api.Step{one, below, emit}, 9, running, running, faulted, faulted)
}

// behind is m with what the run put and deleted done to it.
func behind(r engine.Run, m ...api.Pair) []api.Pair {
	out, _ := store.FromPairs(m)
	r.Apply(&out)
	return out.Pairs()
}

// What the run tells can be asked for at every step, and what comes out is not
// touched by what the run does later, nor the other way round.
func TestWhatARunTellsOnItsWay(t *testing.T) {
	steps := []api.Step{{Op: api.Const, A: 0, B: 7}, {Op: api.Emit, A: 0}, {Op: api.Put, A: 4, B: 0}, {Op: api.Emit, A: 0}}
	r := engine.Begin(store.Map{})
	tolds := [][]int{}
	for range steps {
		r.Next(steps, 5)
		tolds = append(tolds, r.Told())
	}
	for i, want := range [][]int{{}, {7}, {7}, {7, 7}} {
		if !slices.Equal(tolds[i], want) {
			t.Errorf("behind step %d: told %v, want %v", i, tolds[i], want)
		}
	}
	tolds[3][0] = 99
	if got := r.Told(); !slices.Equal(got, []int{7, 7}) {
		t.Errorf("what was written into a list changed what was told to %v", got)
	}
}

// What a run puts and deletes is done to a map only when it has ended as
// Committed, and what the map has at other keys stays, be it other than what
// the run saw.
func TestWhatARunDoesToAMap(t *testing.T) {
	puts := []api.Step{{Op: api.Const, A: 0, B: 7}, {Op: api.Get, A: 1, B: 9}, {Op: api.Put, A: 4, B: 0}, {Op: api.Del, A: 2}, {Op: api.Del, A: 5}, {Op: api.Put, A: 5, B: 0}, {Op: api.Put, A: 6, B: 0}, {Op: api.Del, A: 6}, {Op: api.Put, A: 15, B: 3}, {Op: api.Put, A: 0, B: 0}}
	other := []api.Pair{{Key: 2, Value: 3}, {Key: 3, Value: 0}, {Key: 4, Value: 1}, {Key: 6, Value: 2}, {Key: 9, Value: 8}}
	done := []api.Pair{{Key: 0, Value: 7}, {Key: 3, Value: 0}, {Key: 4, Value: 7}, {Key: 5, Value: 7}, {Key: 9, Value: 8}, {Key: 15, Value: 0}}
	for _, c := range []struct {
		end   []api.Step
		state int
		want  []api.Pair
	}{
		{nil, committed, done},
		{[]api.Step{{Op: api.Undo}}, undone, other},
		{[]api.Step{{Op: api.Sub, A: 3, B: 0}}, faulted, other},
	} {
		steps := slices.Concat(puts, c.end)
		start, _ := store.FromPairs([]api.Pair{{Key: 2, Value: 1}, {Key: 7, Value: 7}, {Key: 9, Value: 1}})
		r := engine.Begin(start)
		for i := 0; r.State() == running; i++ {
			if got := behind(r, other...); !slices.Equal(got, other) {
				t.Errorf("%d steps of a run that has not ended made the map %v", i, got)
			}
			r.Next(steps, 20)
		}
		if got := behind(r, other...); r.State() != c.state || !slices.Equal(got, c.want) {
			t.Errorf("the end %v: %d, the map %v, want %d, %v", c.end, r.State(), got, c.state, c.want)
		}
		if got := start.Pairs(); !slices.Equal(got, []api.Pair{{Key: 2, Value: 1}, {Key: 7, Value: 7}, {Key: 9, Value: 1}}) {
			t.Errorf("the run changed the map over which it began to %v", got)
		}
	}
}

// Steps that are no job must not be handed in; were it done, it would not
// panic: registers that are none are 0 and stay so, and keys that are none are
// left alone (the next test).
func TestStepsThatAreNoJob(t *testing.T) {
	for _, n := range []int{math.MinInt, -5, -4, -1, 4, 5, 8, math.MaxInt} {
		steps := []api.Step{
			{Op: api.Const, A: n, B: 7}, {Op: api.Add, A: n, B: n}, {Op: api.Sub, A: 0, B: n}, {Op: api.Emit, A: n}, {Op: api.Put, A: 3, B: n},
			{Op: n, A: n, B: n, C: n}, {Op: 13, A: n, B: n, C: n}, {Op: api.Emit, A: 0},
		}
		r := engine.Begin(store.Map{})
		for range 9 {
			r.Next(steps, 200)
		}
		if r.State() != committed || !slices.Equal(r.Told(), []int{0, 0}) || !slices.Equal(behind(r), []api.Pair{{Key: 3, Value: 0}}) {
			t.Errorf("with the register %d: %d, told %v, the map %v", n, r.State(), r.Told(), behind(r))
		}
	}
}

func TestKeysThatAreNone(t *testing.T) {
	for _, n := range []int{math.MinInt, -1, 16, 17, math.MaxInt} {
		steps := []api.Step{{Op: api.Put, A: n}, {Op: api.Del, A: n}, {Op: api.Put, A: 15}}
		r := engine.Begin(store.Map{})
		for range 4 {
			r.Next(steps, 200)
		}
		if got := behind(r); r.State() != committed || !slices.Equal(got, []api.Pair{{Key: 15, Value: 0}}) {
			t.Errorf("with the key %d: %d, the map %v", n, r.State(), got)
		}
	}
}
