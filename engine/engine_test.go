package engine_test

import (
	"math"
	"slices"
	"testing"

	"pivot/api"
	"pivot/engine"
	"pivot/keys"
	"pivot/store"
)

// states lets a run go on n times and tells its state behind each.
func states(steps []api.Step, fuel, n int) []int {
	r := engine.Begin(store.Map{})
	out := []int{r.State()}
	for i := 0; i < n; i++ {
		r.Next(steps, fuel)
		out = append(out, r.State())
	}
	return out
}

func wantStates(t *testing.T, steps []api.Step, fuel int, want ...int) {
	t.Helper()
	if got := states(steps, fuel, len(want)-1); !slices.Equal(got, want) {
		t.Errorf("the states of %v with the fuel %d: %v, want %v", steps, fuel, got, want)
	}
}

const (
	running   = api.Running
	committed = api.Committed
	undone    = api.Undone
	faulted   = api.Faulted
)

// A run that comes behind the last step, or to the end of its fuel, ends in
// place of the next step; at an Undo or a fault it ends with that step.
func TestWhenARunEnds(t *testing.T) {
	emit := api.Step{Op: api.Emit}
	undo := api.Step{Op: api.Undo}
	one := api.Step{Op: api.Const, A: 1, B: 1}
	below := api.Step{Op: api.Sub, A: 0, B: 1}
	wantStates(t, nil, 1, running, committed, committed)
	wantStates(t, []api.Step{emit, emit}, 3, running, running, running, committed, committed)
	wantStates(t, []api.Step{emit, emit}, 2, running, running, running, committed, committed)
	wantStates(t, []api.Step{emit, emit}, 1, running, running, faulted, faulted)
	wantStates(t, []api.Step{emit, undo, emit}, 9, running, running, undone, undone)
	wantStates(t, []api.Step{emit, undo}, 2, running, running, undone, undone)
	wantStates(t, []api.Step{emit, undo}, 1, running, running, faulted, faulted)
	wantStates(t, []api.Step{one, below, emit}, 9, running, running, faulted, faulted)
}

// behind is m with what the run put and deleted done to it.
func behind(r engine.Run, m ...api.Pair) []api.Pair {
	out, _ := store.FromPairs(m)
	r.Apply(&out)
	return out.Pairs()
}

// What the run tells can be asked for at every step, and what comes out is not
// touched by what the run does later, nor the other way round.
func TestWhatARunTellsOnItsWay(t *testing.T) {
	steps := []api.Step{{Op: api.Const, A: 0, B: 7}, {Op: api.Emit, A: 0}, {Op: api.Put, A: 4, B: 0}, {Op: api.Emit, A: 0}}
	r := engine.Begin(store.Map{})
	tolds := [][]int{}
	for range steps {
		r.Next(steps, 5)
		tolds = append(tolds, r.Told())
	}
	for i, want := range [][]int{{}, {7}, {7}, {7, 7}} {
		if !slices.Equal(tolds[i], want) {
			t.Errorf("behind step %d: told %v, want %v", i, tolds[i], want)
		}
	}
	tolds[3][0] = 99
	if got := r.Told(); !slices.Equal(got, []int{7, 7}) {
		t.Errorf("what was written into a list changed what was told to %v", got)
	}
}

// What a run puts and deletes is done to a map only when it has ended as
// Committed, and what the map has at other keys stays, be it other than what
// the run saw.
func TestWhatARunDoesToAMap(t *testing.T) {
	puts := []api.Step{{Op: api.Const, A: 0, B: 7}, {Op: api.Get, A: 1, B: 9}, {Op: api.Put, A: 4, B: 0}, {Op: api.Del, A: 2}, {Op: api.Del, A: 5}, {Op: api.Put, A: 5, B: 0}, {Op: api.Put, A: 6, B: 0}, {Op: api.Del, A: 6}, {Op: api.Put, A: 15, B: 3}, {Op: api.Put, A: 0, B: 0}}
	other := []api.Pair{{Key: 2, Value: 3}, {Key: 3, Value: 0}, {Key: 4, Value: 1}, {Key: 6, Value: 2}, {Key: 9, Value: 8}}
	done := []api.Pair{{Key: 0, Value: 7}, {Key: 3, Value: 0}, {Key: 4, Value: 7}, {Key: 5, Value: 7}, {Key: 9, Value: 8}, {Key: 15, Value: 0}}
	for _, c := range []struct {
		end   []api.Step
		state int
		want  []api.Pair
	}{
		{nil, committed, done},
		{[]api.Step{{Op: api.Undo}}, undone, other},
		{[]api.Step{{Op: api.Sub, A: 3, B: 0}}, faulted, other},
	} {
		steps := slices.Concat(puts, c.end)
		start, _ := store.FromPairs([]api.Pair{{Key: 2, Value: 1}, {Key: 7, Value: 7}, {Key: 9, Value: 1}})
		r := engine.Begin(start)
		for i := 0; r.State() == running; i++ {
			if got := behind(r, other...); !slices.Equal(got, other) {
				t.Errorf("%d steps of a run that has not ended made the map %v", i, got)
			}
			r.Next(steps, 20)
		}
		if got := behind(r, other...); r.State() != c.state || !slices.Equal(got, c.want) {
			t.Errorf("the end %v: %d, the map %v, want %d, %v", c.end, r.State(), got, c.state, c.want)
		}
		if got := start.Pairs(); !slices.Equal(got, []api.Pair{{Key: 2, Value: 1}, {Key: 7, Value: 7}, {Key: 9, Value: 1}}) {
			t.Errorf("the run changed the map over which it began to %v", got)
		}
	}
}

// Steps that are no job must not be handed in; were it done, it would not
// panic: registers that are none are 0 and stay so, and keys that are none are
// left alone (the next test).
func TestStepsThatAreNoJob(t *testing.T) {
	for _, n := range []int{math.MinInt, -5, -4, -1, 4, 5, 8, math.MaxInt} {
		steps := []api.Step{
			{Op: api.Const, A: n, B: 7}, {Op: api.Add, A: n, B: n}, {Op: api.Sub, A: 0, B: n}, {Op: api.Emit, A: n}, {Op: api.Put, A: 3, B: n},
			{Op: n, A: n, B: n, C: n}, {Op: 13, A: n, B: n, C: n}, {Op: api.Emit, A: 0},
		}
		r := engine.Begin(store.Map{})
		for range 9 {
			r.Next(steps, 200)
		}
		if r.State() != committed || !slices.Equal(r.Told(), []int{0, 0}) || !slices.Equal(behind(r), []api.Pair{{Key: 3, Value: 0}}) {
			t.Errorf("with the register %d: %d, told %v, the map %v", n, r.State(), r.Told(), behind(r))
		}
	}
}

func TestKeysThatAreNone(t *testing.T) {
	for _, n := range []int{math.MinInt, -1, 16, 17, math.MaxInt} {
		steps := []api.Step{{Op: api.Put, A: n}, {Op: api.Del, A: n}, {Op: api.Put, A: 15}}
		r := engine.Begin(store.Map{})
		for range 4 {
			r.Next(steps, 200)
		}
		if got := behind(r); r.State() != committed || !slices.Equal(got, []api.Pair{{Key: 15, Value: 0}}) {
			t.Errorf("with the key %d: %d, the map %v", n, r.State(), got)
		}
	}
}

// keysOf are the keys of a set, rising.
func keysOf(s keys.Set) []int {
	out := []int{}
	for key := range 16 {
		if s.Has(key) {
			out = append(out, key)
		}
	}
	return out
}

// ran is the job's run over 2: 9999 and 3: 1, ended.
func ran(steps []api.Step, fuel int) engine.Run {
	start, _ := store.FromPairs([]api.Pair{{Key: 2, Value: 9999}, {Key: 3, Value: 1}})
	r := engine.Begin(start)
	for r.State() == running {
		r.Next(steps, fuel)
	}
	return r
}

// P8: which keys a run read and wrote. It does not read what it has put or
// deleted itself by then, and wrote nothing if it did not end as Committed.
func TestWhatARunReadAndWrote(t *testing.T) {
	get := func(key int) api.Step { return api.Step{Op: api.Get, B: key} }
	put := func(key int) api.Step { return api.Step{Op: api.Put, A: key} }
	del := func(key int) api.Step { return api.Step{Op: api.Del, A: key} }
	sum := func(first, last int) api.Step { return api.Step{Op: api.Sum, B: first, C: last} }
	count := func(first, last int) api.Step { return api.Step{Op: api.Count, B: first, C: last} }
	undo := api.Step{Op: api.Undo}
	none := []int{}
	for _, c := range []struct {
		steps       []api.Step
		state       int
		read, wrote []int
	}{
		{nil, committed, none, none},
		{[]api.Step{get(0)}, committed, []int{0}, none},
		{[]api.Step{get(15), get(3)}, committed, []int{3, 15}, none},
		{[]api.Step{put(0), put(15)}, committed, none, []int{0, 15}},
		{[]api.Step{del(4), del(2)}, committed, none, []int{2, 4}},
		{[]api.Step{sum(4, 6)}, committed, []int{4, 5, 6}, none},
		{[]api.Step{sum(5, 5)}, committed, []int{5}, none},
		{[]api.Step{count(1, 3)}, committed, []int{1, 2, 3}, none},
		{[]api.Step{count(0, 1), count(14, 15)}, committed, []int{0, 1, 14, 15}, none},
		{[]api.Step{put(5), get(5), sum(4, 6), count(5, 7)}, committed, []int{4, 6, 7}, []int{5}},
		{[]api.Step{del(5), get(5), sum(4, 6), count(5, 7)}, committed, []int{4, 6, 7}, []int{5}},
		{[]api.Step{put(5), del(5), put(6), sum(5, 6)}, committed, none, []int{5, 6}},
		{[]api.Step{get(5), put(5), get(5)}, committed, []int{5}, []int{5}},
		{[]api.Step{sum(4, 6), del(5)}, committed, []int{4, 5, 6}, []int{5}},
		{[]api.Step{get(1), put(1), put(3), get(3), undo, get(4)}, undone, []int{1}, none},
		{[]api.Step{put(5), sum(1, 5)}, faulted, []int{1, 2, 3, 4}, none},
		{[]api.Step{put(5), put(6), get(7)}, committed, []int{7}, []int{5, 6}},
		{[]api.Step{put(5), get(6), get(7), get(8), get(9), get(10), get(11), get(12), get(13)}, faulted, []int{6, 7, 8, 9, 10, 11, 12}, none},
		{[]api.Step{{Op: api.Skip, A: 0, B: 2}, get(1), put(2), get(3)}, committed, []int{3}, none},
		{[]api.Step{{Op: api.Const, A: 1, B: 5}, {Op: api.Add, A: 1, B: 2}, {Op: api.Sub, A: 1, B: 2}, {Op: api.Emit, A: 3}}, committed, none, none},
	} {
		r := ran(c.steps, 8)
		if read, wrote := keysOf(r.Read()), keysOf(r.Wrote()); r.State() != c.state || !slices.Equal(read, c.read) || !slices.Equal(wrote, c.wrote) {
			t.Errorf("%v: %d, read %v, wrote %v, want %d, %v, %v", c.steps, r.State(), read, wrote, c.state, c.read, c.wrote)
		}
	}
}

// Until a run has ended, it has written nothing.
func TestWhatARunWroteOnItsWay(t *testing.T) {
	r := engine.Begin(store.Map{})
	steps := []api.Step{{Op: api.Put, A: 4}, {Op: api.Get, B: 5}}
	for _, want := range [][]int{{}, {}, {4}, {4}} {
		r.Next(steps, 9)
		if got := keysOf(r.Wrote()); !slices.Equal(got, want) {
			t.Errorf("wrote %v, want %v", got, want)
		}
	}
}
