package desk_test

import (
	"slices"
	"testing"

	"pivot/api"
	"pivot/desk"
)

// fill hands jobs in until n wait; the first gets the ticket.
func fill(t *testing.T, d *desk.Desk, n, ticket int) {
	t.Helper()
	for i := range n {
		wantSubmit(t, d, tells(i), ticket+i, api.OK)
		wantPoll(t, d, ticket+i, api.Waiting, 0)
	}
}

// P6: as many jobs as Queue may wait, and no more.
func TestSubmitFillsTheQueue(t *testing.T) {
	for queue := 1; queue <= 8; queue++ {
		d := open(t, config(2, queue, 9))
		fill(t, d, queue, 1)
		for range 3 {
			wantSubmit(t, d, nil, 0, api.ErrFull)
		}
		wantNoTicket(t, d, queue+1)
	}
}

// P6: jobs that are running or have ended do not wait; those that were refused
// get no ticket.
func TestSubmitCountsThoseThatWait(t *testing.T) {
	d := open(t, config(2, 2, 9))
	fill(t, d, 2, 1)
	wantPick(t, d, 0, api.Took, 1)
	wantSubmit(t, d, nil, 3, api.OK)
	wantSubmit(t, d, nil, 0, api.ErrFull)
	wantPick(t, d, 1, api.Took, 2)
	wantSubmit(t, d, nil, 4, api.OK)
	wantSubmit(t, d, nil, 0, api.ErrFull)
	wantPick(t, d, 0, api.Stepped, 1)
	wantPick(t, d, 0, api.Stepped, 1)
	wantPick(t, d, 0, api.Ended, 1)
	wantSubmit(t, d, nil, 0, api.ErrFull)
	wantCancel(t, d, 2, api.OK) // it ran
	wantSubmit(t, d, nil, 0, api.ErrFull)
	wantCancel(t, d, 4, api.OK) // it waited
	wantSubmit(t, d, nil, 5, api.OK)
	wantSubmit(t, d, nil, 0, api.ErrFull)
	wantAttempt(t, d, 1, 3, 0)
	wantSubmit(t, d, nil, 6, api.OK)
	wantSubmit(t, d, nil, 0, api.ErrFull)
}

// P6, P1: steps that are no job are told first, be the queue full or not, and
// nothing is changed by them.
func TestSubmitOfNoJob(t *testing.T) {
	d := open(t, config(1, 1, 9))
	bad := [][]api.Step{
		noJob(), {step(0)}, {step(13)}, {step(api.Back, 0, 1)}, {step(api.Skip, 0, 1)}, {step(api.Emit, 0, 1)}, {step(api.Sum, 0, 5, 4)},
		make([]api.Step, 33), slices.Repeat([]api.Step{step(api.Undo)}, 33), slices.Concat(tells(1), noJob()),
	}
	for _, n := range outside() {
		bad = append(bad, []api.Step{step(n, n, n, n)}, []api.Step{step(api.Get, n, 0)}, []api.Step{step(api.Put, n, 0)}, []api.Step{step(api.Emit, 0), step(api.Back, 0, n)})
	}
	for _, steps := range bad {
		wantSubmit(t, d, steps, 0, api.ErrJob)
	}
	wantNoTicket(t, d, 1)
	wantPick(t, d, 0, api.Nothing, 0)
	wantSubmit(t, d, tells(3), 1, api.OK)
	for _, steps := range bad {
		wantSubmit(t, d, steps, 0, api.ErrJob)
	}
	wantSubmit(t, d, tells(4), 0, api.ErrFull)
	wantNoTicket(t, d, 2)
	wantAttempt(t, d, 0, 1, 2)
	wantPick(t, d, 0, api.Nothing, 0)
	wantSubmit(t, d, nil, 2, api.OK)
}

// P6: no steps are a job, and 32 are; both run.
func TestSubmitOfTheShortestAndTheLongestJob(t *testing.T) {
	d := open(t, config(1, 3, 200))
	wantSubmit(t, d, nil, 1, api.OK)
	wantSubmit(t, d, []api.Step{}, 2, api.OK)
	wantSubmit(t, d, slices.Repeat([]api.Step{step(api.Emit, 3)}, 32), 3, api.OK)
	wantAttempt(t, d, 0, 1, 0)
	wantAttempt(t, d, 0, 2, 0)
	wantAttempt(t, d, 0, 3, 32)
	wantPoll(t, d, 3, api.Committed, 1, make([]int, 32)...)
}
