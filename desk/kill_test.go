package desk_test

import (
	"slices"
	"testing"

	"pivot/api"
)

// P12: a killed attempt comes to nothing, however far it was; its job stands
// ahead of all others, and begins anew.
func TestKill(t *testing.T) {
	for done := 0; done <= 4; done++ {
		d := open(t, config(2, 4, 4))
		wantSubmit(t, d, []api.Step{step(api.Const, 0, 5), step(api.Put, 3, 0), step(api.Emit, 0), step(api.Del, 4)}, 1, api.OK)
		fill(t, d, 3, 2)
		wantPick(t, d, 1, api.Took, 1)
		for range done {
			wantPick(t, d, 1, api.Stepped, 1)
		}
		fill(t, d, 1, 5)
		wantKill(t, d, 1, api.OK)
		wantPoll(t, d, 1, api.Waiting, 1)
		wantMap(t, d)
		wantKill(t, d, 1, api.ErrIdle)
		wantAttempt(t, d, 0, 1, 4)
		wantPoll(t, d, 1, api.Committed, 2, 5)
		wantMap(t, d, 3, 5)
		for ticket := 2; ticket <= 5; ticket++ {
			wantAttempt(t, d, 1, ticket, 2)
		}
	}
}

// P12: of several that are killed the last is the first of the queue.
func TestKillOfSeveral(t *testing.T) {
	d := open(t, config(4, 5, 9))
	fill(t, d, 5, 1)
	for worker := range 4 {
		wantPick(t, d, worker, api.Took, worker+1)
	}
	for _, worker := range []int{2, 0, 3} {
		wantKill(t, d, worker, api.OK)
	}
	for _, ticket := range []int{4, 1, 3, 5} {
		wantAttempt(t, d, 2, ticket, 2)
	}
	wantPick(t, d, 1, api.Stepped, 2)
	wantPick(t, d, 1, api.Stepped, 2)
	wantPick(t, d, 1, api.Ended, 2)
	wantPoll(t, d, 2, api.Committed, 1, 1)
	wantPoll(t, d, 4, api.Committed, 2, 3)
}

// P12, P6: a job that was killed waits, though the queue was full.
func TestKillFillsTheQueue(t *testing.T) {
	d := open(t, config(2, 1, 9))
	wantSubmit(t, d, tells(1), 1, api.OK)
	wantPick(t, d, 0, api.Took, 1)
	wantSubmit(t, d, tells(2), 2, api.OK)
	wantKill(t, d, 0, api.OK)
	wantSubmit(t, d, nil, 0, api.ErrFull)
	wantPick(t, d, 0, api.Took, 1)
	wantSubmit(t, d, nil, 0, api.ErrFull)
	wantPick(t, d, 1, api.Took, 2)
	wantSubmit(t, d, nil, 3, api.OK)
	wantKill(t, d, 1, api.OK)
	wantCancel(t, d, 2, api.OK)
	wantSubmit(t, d, nil, 0, api.ErrFull)
	wantPick(t, d, 1, api.Took, 3)
}

// P12: the next attempt sees the map as it is when it begins, and is looked at
// from then on.
func TestKillAndBeginAnew(t *testing.T) {
	d := open(t, config(2, 4, 20))
	wantSubmit(t, d, append(raises(1), step(api.Emit, 0)), 1, api.OK)
	wantPick(t, d, 0, api.Took, 1)
	wantPick(t, d, 0, api.Stepped, 1)
	wantSubmit(t, d, puts(1, 6), 2, api.OK)
	wantAttempt(t, d, 1, 2, 2)
	wantKill(t, d, 0, api.OK)
	wantAttempt(t, d, 0, 1, 5)
	wantPoll(t, d, 1, api.Committed, 2, 7)
	wantMap(t, d, 1, 7)
}

// P12, P1: a worker that is none, or idle, cannot be killed, and nothing is
// changed by it.
func TestKillWithAnError(t *testing.T) {
	d := open(t, config(2, 2, 9))
	wrong := func() {
		t.Helper()
		for _, worker := range slices.Concat(outside(), []int{-2, 2, 3, 4}) {
			wantKill(t, d, worker, api.ErrWorker)
		}
		wantKill(t, d, 1, api.ErrIdle)
	}
	wrong()
	wantKill(t, d, 0, api.ErrIdle)
	fill(t, d, 2, 1)
	wrong()
	wantKill(t, d, 0, api.ErrIdle)
	wantPick(t, d, 0, api.Took, 1)
	for range 2 {
		wrong()
		wantPick(t, d, 0, api.Stepped, 1)
	}
	wrong()
	wantPoll(t, d, 1, api.Running, 1)
	wantPick(t, d, 0, api.Ended, 1)
	wrong()
	wantKill(t, d, 0, api.ErrIdle)
	wantPoll(t, d, 1, api.Committed, 1, 0)
	wantPick(t, d, 0, api.Took, 2)
	wantCancel(t, d, 2, api.OK)
	wantKill(t, d, 0, api.ErrIdle)
	wantPick(t, d, 0, api.Nothing, 0)
}
