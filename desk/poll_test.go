package desk_test

import (
	"slices"
	"testing"

	"pivot/api"
)

// P10: a job on its way: what it told so far is not told, and the tries count
// what has begun.
func TestPollOnTheWay(t *testing.T) {
	d := open(t, config(1, 2, 9))
	wantSubmit(t, d, tells(6), 1, api.OK)
	wantPoll(t, d, 1, api.Waiting, 0)
	wantPick(t, d, 0, api.Took, 1)
	wantPoll(t, d, 1, api.Running, 1)
	wantPick(t, d, 0, api.Stepped, 1)
	wantPoll(t, d, 1, api.Running, 1)
	wantPick(t, d, 0, api.Stepped, 1)
	wantPoll(t, d, 1, api.Running, 1)
	wantPick(t, d, 0, api.Ended, 1)
	for range 3 {
		wantPoll(t, d, 1, api.Committed, 1, 6)
	}
}

// P10, P1: tickets that are none, as jobs come.
func TestPollOfNoTicket(t *testing.T) {
	d := open(t, config(1, 8, 9))
	for n := 0; n <= 8; n++ {
		for _, ticket := range slices.Concat(outside(), []int{0, n + 1, n + 2}) {
			wantNoTicket(t, d, ticket)
		}
		for ticket := 1; ticket <= n; ticket++ {
			wantPoll(t, d, ticket, api.Waiting, 0)
		}
		if n < 8 {
			wantSubmit(t, d, nil, n+1, api.OK)
		}
	}
}

// P10: every job that was ever handed in can be asked for, and has its own
// outcome.
func TestPollOfManyJobs(t *testing.T) {
	d := open(t, config(1, 1, 9))
	const many = 300
	for ticket := 1; ticket <= many; ticket++ {
		wantSubmit(t, d, tells(ticket), ticket, api.OK)
		if ticket%7 == 0 {
			wantCancel(t, d, ticket, api.OK)
			continue
		}
		wantAttempt(t, d, 0, ticket, 2)
	}
	for ticket := many; ticket >= 1; ticket-- {
		if ticket%7 == 0 {
			wantPoll(t, d, ticket, api.Cancelled, 0)
			continue
		}
		wantPoll(t, d, ticket, api.Committed, 1, ticket)
	}
}

// P10: the map, by rising keys, as jobs put and delete.
func TestMap(t *testing.T) {
	d := open(t, config(1, 1, 9))
	for i, c := range []struct {
		steps []api.Step
		want  []int
	}{
		{puts(15, 3), []int{15, 3}},
		{puts(0, 0), []int{0, 0, 15, 3}},
		{puts(7, 999), []int{0, 0, 7, 999, 15, 3}},
		{puts(7, 1), []int{0, 0, 7, 1, 15, 3}},
		{[]api.Step{step(api.Del, 0)}, []int{7, 1, 15, 3}},
		{[]api.Step{step(api.Del, 0)}, []int{7, 1, 15, 3}},
		{[]api.Step{step(api.Del, 15), step(api.Del, 7)}, nil},
	} {
		wantSubmit(t, d, c.steps, i+1, api.OK)
		wantAttempt(t, d, 0, i+1, len(c.steps))
		wantMap(t, d, c.want...)
	}
}
