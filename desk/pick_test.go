package desk_test

import (
	"slices"
	"testing"

	"pivot/api"
)

// P7: jobs are taken in the order in which they were handed in, whichever
// worker takes them.
func TestPickTakesTheFirstOfTheQueue(t *testing.T) {
	d := open(t, config(3, 5, 9))
	fill(t, d, 5, 1)
	wantPick(t, d, 2, api.Took, 1)
	wantPick(t, d, 0, api.Took, 2)
	wantPick(t, d, 1, api.Took, 3)
	wantSubmit(t, d, nil, 6, api.OK)
	wantPick(t, d, 0, api.Stepped, 2)
	wantPick(t, d, 2, api.Stepped, 1)
	wantPick(t, d, 0, api.Stepped, 2)
	wantPick(t, d, 0, api.Ended, 2)
	wantPick(t, d, 0, api.Took, 4)
	wantPick(t, d, 2, api.Stepped, 1)
	wantPick(t, d, 2, api.Ended, 1)
	wantPick(t, d, 2, api.Took, 5)
	wantPick(t, d, 1, api.Stepped, 3)
	wantPick(t, d, 1, api.Stepped, 3)
	wantPick(t, d, 1, api.Ended, 3)
	wantPick(t, d, 1, api.Took, 6)
	wantPick(t, d, 1, api.Ended, 6)
	wantPick(t, d, 1, api.Nothing, 0)
	wantPick(t, d, 1, api.Nothing, 0)
	wantPoll(t, d, 4, api.Running, 1)
	wantPoll(t, d, 5, api.Running, 1)
}

// P7, P1: a worker that is none does nothing, and nothing is changed.
func TestPickOfNoWorker(t *testing.T) {
	d := open(t, config(2, 2, 9))
	fill(t, d, 2, 1)
	none := slices.Concat(outside(), []int{-2, 2, 3, 4})
	for i := range 6 {
		for _, worker := range none {
			if note, e := d.Pick(worker); note != (api.Note{}) || e != api.ErrWorker {
				t.Errorf("Pick(%d) = %+v, %d, want ErrWorker", worker, note, e)
			}
		}
		switch i {
		case 0:
			wantPoll(t, d, 1, api.Waiting, 0)
			wantPick(t, d, 1, api.Took, 1)
		case 1, 2:
			wantPick(t, d, 1, api.Stepped, 1)
		case 3:
			wantPoll(t, d, 1, api.Running, 1)
			wantPick(t, d, 1, api.Ended, 1)
		case 4:
			wantPick(t, d, 1, api.Took, 2)
		}
	}
}

// ending is a job with how many picks are steps of it, and how it ends.
type ending struct {
	steps   []api.Step
	stepped int
	state   int
	told    []int
}

// endings all come to their end with the fuel 4.
func endings() []ending {
	one := step(api.Const, 0, 1)
	return []ending{
		{nil, 0, api.Committed, nil},
		{tells(7), 2, api.Committed, []int{7}},
		{[]api.Step{one, step(api.Emit, 0), step(api.Emit, 1), step(api.Emit, 0)}, 4, api.Committed, []int{1, 0, 1}},
		{[]api.Step{one, step(api.Emit, 0), step(api.Emit, 1), step(api.Emit, 0), step(api.Emit, 0)}, 4, api.Faulted, []int{1, 0, 1}},
		{[]api.Step{one, step(api.Emit, 0), step(api.Back, 0, 1)}, 4, api.Faulted, []int{1, 1}},
		{[]api.Step{step(api.Undo)}, 0, api.Undone, nil},
		{[]api.Step{one, step(api.Emit, 0), step(api.Undo), step(api.Emit, 0)}, 2, api.Undone, []int{1}},
		{[]api.Step{one, one, step(api.Emit, 0), step(api.Undo)}, 3, api.Undone, []int{1}},
		{[]api.Step{one, one, step(api.Emit, 0), one, step(api.Undo)}, 4, api.Faulted, []int{1}},
		{[]api.Step{one, step(api.Emit, 0), step(api.Sub, 1, 0), step(api.Emit, 0)}, 2, api.Faulted, []int{1}},
		{[]api.Step{one, one, step(api.Emit, 0), step(api.Sub, 1, 0)}, 3, api.Faulted, []int{1}},
		{[]api.Step{step(api.Skip, 0, 2), step(api.Undo), step(api.Undo)}, 1, api.Committed, nil},
	}
}

// P7: a run ends in place of a step, behind the last one or with the fuel used
// up, or with a step, at an UNDO or a FAULT. Behind each end the worker is idle
// again, and the job has its state and what it told.
func TestPickToTheEnd(t *testing.T) {
	d := open(t, config(1, 1, 4))
	for i, c := range endings() {
		ticket := i + 1
		wantSubmit(t, d, c.steps, ticket, api.OK)
		wantAttempt(t, d, 0, ticket, c.stepped)
		wantPoll(t, d, ticket, c.state, 1, c.told...)
		wantPick(t, d, 0, api.Nothing, 0)
	}
	for i, c := range endings() {
		wantPoll(t, d, i+1, c.state, 1, c.told...)
	}
	wantMap(t, d)
}

// P7: the fuel is the desk's, and each attempt has all of it.
func TestPickWithEveryFuel(t *testing.T) {
	endless := []api.Step{step(api.Const, 0, 1), step(api.Emit, 0), step(api.Back, 0, 1)}
	for fuel := 1; fuel <= 200; fuel++ {
		d := open(t, config(1, 2, fuel))
		for ticket := 1; ticket <= 2; ticket++ {
			wantSubmit(t, d, endless, ticket, api.OK)
			wantAttempt(t, d, 0, ticket, fuel)
			wantPoll(t, d, ticket, api.Faulted, 1, slices.Repeat([]int{1}, fuel/2)...)
		}
	}
}

// P7: what a job puts and deletes is seen by itself at once, and by the map and
// by jobs that are taken later only behind its end as Committed.
func TestTheMapIsChangedAtTheEnd(t *testing.T) {
	d := open(t, config(1, 8, 20))
	wantSubmit(t, d, []api.Step{step(api.Const, 0, 5), step(api.Put, 3, 0), step(api.Put, 4, 0), step(api.Del, 3), step(api.Count, 1, 0, 15), step(api.Emit, 1)}, 1, api.OK)
	wantPick(t, d, 0, api.Took, 1)
	for range 6 {
		wantPick(t, d, 0, api.Stepped, 1)
		wantMap(t, d)
	}
	wantPick(t, d, 0, api.Ended, 1)
	wantMap(t, d, 4, 5)
	wantPoll(t, d, 1, api.Committed, 1, 1)
	get := []api.Step{step(api.Get, 0, 4), step(api.Emit, 0), step(api.Put, 0, 0), step(api.Del, 4)}
	for i, end := range [][]api.Step{{step(api.Undo)}, {step(api.Sub, 1, 0)}} {
		wantSubmit(t, d, slices.Concat(get, end), 2+i, api.OK)
		wantAttempt(t, d, 0, 2+i, 4)
		wantPoll(t, d, 2+i, []int{api.Undone, api.Faulted}[i], 1, 5)
		wantMap(t, d, 4, 5)
	}
	wantSubmit(t, d, get, 4, api.OK)
	wantAttempt(t, d, 0, 4, 4)
	wantPoll(t, d, 4, api.Committed, 1, 5)
	wantMap(t, d, 0, 5)
}

// P7: registers, fuel and place are new at every job of a worker.
func TestAWorkerBeginsAnew(t *testing.T) {
	d := open(t, config(1, 2, 6))
	all := []api.Step{step(api.Emit, 0), step(api.Emit, 1), step(api.Emit, 2), step(api.Emit, 3)}
	wantSubmit(t, d, []api.Step{step(api.Const, 0, 1), step(api.Const, 1, 2), step(api.Const, 2, 3), step(api.Const, 3, 4), step(api.Put, 9, 3), step(api.Undo)}, 1, api.OK)
	wantSubmit(t, d, append(all, step(api.Count, 0, 0, 15), step(api.Emit, 0)), 2, api.OK)
	wantAttempt(t, d, 0, 1, 5)
	wantAttempt(t, d, 0, 2, 6)
	wantPoll(t, d, 2, api.Committed, 1, 0, 0, 0, 0, 0)
}

// P7, example 8: an attempt sees the map as it was when the attempt began, and
// what it writes leaves alone what another one has written since.
func TestAnAttemptSeesTheMapAsItWas(t *testing.T) {
	d := open(t, config(2, 4, 20))
	wantSubmit(t, d, []api.Step{step(api.Get, 0, 1), step(api.Put, 2, 0)}, 1, api.OK)
	wantSubmit(t, d, puts(1, 4), 2, api.OK)
	wantPick(t, d, 0, api.Took, 1)
	wantAttempt(t, d, 1, 2, 2)
	wantMap(t, d, 1, 4)
	wantPick(t, d, 0, api.Stepped, 1)
	wantPick(t, d, 0, api.Stepped, 1)
	wantPick(t, d, 0, api.Ended, 1)
	wantMap(t, d, 1, 4, 2, 0)
	wantPoll(t, d, 1, api.Committed, 1)
	wantPoll(t, d, 2, api.Committed, 1)
}
