package desk_test

import (
	"slices"
	"testing"

	"pivot/api"
)

// P11: a job that waits is taken out of the queue wherever it stands; the
// others keep their order.
func TestCancelOfOneThatWaits(t *testing.T) {
	for cancelled := 1; cancelled <= 4; cancelled++ {
		d := open(t, config(1, 4, 9))
		fill(t, d, 4, 1)
		wantCancel(t, d, cancelled, api.OK)
		wantPoll(t, d, cancelled, api.Cancelled, 0)
		wantCancel(t, d, cancelled, api.ErrDone)
		wantSubmit(t, d, tells(4), 5, api.OK) // there is room for one more
		wantSubmit(t, d, nil, 0, api.ErrFull)
		for ticket := 1; ticket <= 5; ticket++ {
			if ticket != cancelled {
				wantAttempt(t, d, 0, ticket, 2)
				wantPoll(t, d, ticket, api.Committed, 1, ticket-1)
			}
		}
		wantPick(t, d, 0, api.Nothing, 0)
		wantPoll(t, d, cancelled, api.Cancelled, 0)
	}
}

// P11: the worker that ran the job is idle, wherever the job stood; the others
// go on. What the job put and told is dropped.
func TestCancelOfOneThatRuns(t *testing.T) {
	for done := 0; done <= 3; done++ {
		d := open(t, config(3, 4, 9))
		wantSubmit(t, d, tells(1), 1, api.OK)
		wantSubmit(t, d, []api.Step{step(api.Const, 0, 3), step(api.Put, 5, 0), step(api.Emit, 0)}, 2, api.OK)
		wantSubmit(t, d, tells(3), 3, api.OK)
		wantSubmit(t, d, tells(4), 4, api.OK)
		for worker := range 3 {
			wantPick(t, d, worker, api.Took, worker+1)
		}
		for range done {
			wantPick(t, d, 1, api.Stepped, 2)
		}
		wantPick(t, d, 2, api.Stepped, 3)
		wantCancel(t, d, 2, api.OK)
		wantPoll(t, d, 2, api.Cancelled, 1)
		wantCancel(t, d, 2, api.ErrDone)
		wantMap(t, d)
		wantPick(t, d, 2, api.Stepped, 3)
		wantPick(t, d, 2, api.Ended, 3)
		wantAttempt(t, d, 1, 4, 2)
		wantPick(t, d, 1, api.Nothing, 0)
		wantPick(t, d, 0, api.Stepped, 1)
		wantPick(t, d, 0, api.Stepped, 1)
		wantPick(t, d, 0, api.Ended, 1)
		wantPoll(t, d, 1, api.Committed, 1, 1)
		wantPoll(t, d, 2, api.Cancelled, 1)
		wantPoll(t, d, 3, api.Committed, 1, 3)
		wantPoll(t, d, 4, api.Committed, 1, 4)
		wantMap(t, d)
	}
}

// P11: a job that has come to its end, in whatever way, stays as it is.
func TestCancelOfOneThatHasEnded(t *testing.T) {
	d := open(t, config(1, 1, 4))
	for i, c := range endings() {
		ticket := i + 1
		wantSubmit(t, d, c.steps, ticket, api.OK)
		wantAttempt(t, d, 0, ticket, c.stepped)
		wantCancel(t, d, ticket, api.ErrDone)
		wantPoll(t, d, ticket, c.state, 1, c.told...)
	}
}

// P11, P1: with an error nothing is changed, neither in the queue nor at the
// worker.
func TestCancelWithAnError(t *testing.T) {
	d := open(t, config(1, 3, 9))
	fill(t, d, 3, 1)
	wantCancel(t, d, 3, api.OK)
	wrong := func() {
		t.Helper()
		for _, ticket := range slices.Concat(outside(), []int{0, 4, 5}) {
			wantCancel(t, d, ticket, api.ErrTicket)
		}
		wantCancel(t, d, 3, api.ErrDone)
	}
	for ticket := 1; ticket <= 2; ticket++ {
		wrong()
		wantPick(t, d, 0, api.Took, ticket)
		wrong()
		wantPick(t, d, 0, api.Stepped, ticket)
		wrong()
		wantPick(t, d, 0, api.Stepped, ticket)
		wrong()
		wantPick(t, d, 0, api.Ended, ticket)
		wantPoll(t, d, ticket, api.Committed, 1, ticket-1)
	}
	wrong()
	wantPick(t, d, 0, api.Nothing, 0)
	wantSubmit(t, d, nil, 4, api.OK)
}
