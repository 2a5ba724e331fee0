package desk_test

import (
	"testing"

	"pivot/api"
	"pivot/desk"
)

// patient is a desk of so many workers and so much patience.
func patient(t *testing.T, workers, patience int) *desk.Desk {
	t.Helper()
	return open(t, api.Config{Workers: workers, Queue: 8, Fuel: 20, Patience: patience})
}

// disturb lets worker 1 run a job that puts the key. No other job may wait.
func disturb(t *testing.T, d *desk.Desk, key, ticket int) {
	t.Helper()
	wantSubmit(t, d, puts(key, 50), ticket, api.OK)
	wantAttempt(t, d, 1, ticket, 2)
}

// P9: as often as the patience says, and no more, an attempt may come to
// nothing and the job stand at the end of the queue again; then it is urgent.
// Attempts that are killed do not count.
func TestPatience(t *testing.T) {
	for patience := 0; patience <= 5; patience++ {
		for kills := 0; kills <= 2; kills++ {
			d := patient(t, 2, patience)
			wantSubmit(t, d, raises(1), 1, api.OK)
			ticket, tries := 1, 0
			for failed := 0; failed <= patience; failed++ {
				for range kills {
					wantPick(t, d, 0, api.Took, 1)
					wantPick(t, d, 0, api.Stepped, 1)
					wantKill(t, d, 0, api.OK)
				}
				wantPick(t, d, 0, api.Took, 1)
				disturb(t, d, 1, ticket+1)
				wantSubmit(t, d, tells(1), ticket+2, api.OK)
				wantRetried(t, d, 0, 1, ticket+1)
				tries += kills + 1
				wantPoll(t, d, 1, api.Waiting, tries)
				if failed < patience {
					wantAttempt(t, d, 0, ticket+2, 2)
				}
				ticket += 2
			}
			wantAttempt(t, d, 0, 1, 4)
			wantPoll(t, d, 1, api.Committed, tries+1)
			wantAttempt(t, d, 0, ticket, 2)
			wantPick(t, d, 0, api.Nothing, 0)
			wantMap(t, d, 1, 51)
		}
	}
}

// P9: a job that came to nothing stands behind all that wait by then, and ahead
// of those that come later.
func TestRetriedStandsAtTheEnd(t *testing.T) {
	d := patient(t, 3, 1)
	wantSubmit(t, d, raises(1), 1, api.OK)
	wantSubmit(t, d, raises(1), 2, api.OK)
	wantPick(t, d, 0, api.Took, 1)
	wantPick(t, d, 2, api.Took, 2)
	disturb(t, d, 1, 3)
	fill(t, d, 2, 4)
	wantRetried(t, d, 2, 2, 3)
	fill(t, d, 1, 6)
	wantRetried(t, d, 0, 1, 3)
	fill(t, d, 1, 7)
	for _, ticket := range []int{4, 5, 2, 6, 1, 7} {
		wantPick(t, d, 0, api.Took, ticket)
		wantEnded(t, d, 0, ticket)
	}
	wantMap(t, d, 1, 52)
}

// P6: those that came to nothing wait too, and there may be more than Queue of
// them.
func TestRetriedAndUrgentOnesFillTheQueue(t *testing.T) {
	for patience := range 2 {
		d := open(t, api.Config{Workers: 4, Queue: 2, Fuel: 20, Patience: patience})
		for i, worker := range []int{0, 2, 3} {
			wantSubmit(t, d, raises(1), i+1, api.OK)
			wantPick(t, d, worker, api.Took, i+1)
		}
		disturb(t, d, 1, 4)
		wantRetried(t, d, 0, 1, 4)
		wantSubmit(t, d, nil, 5, api.OK)
		wantSubmit(t, d, nil, 0, api.ErrFull)
		wantRetried(t, d, 2, 2, 4)
		wantRetried(t, d, 3, 3, 4)
		wantSubmit(t, d, nil, 0, api.ErrFull)
		wantCancel(t, d, 2, api.OK)
		wantSubmit(t, d, nil, 0, api.ErrFull)
		wantCancel(t, d, 5, api.OK)
		wantSubmit(t, d, nil, 0, api.ErrFull)
		wantSubmit(t, d, noJob(), 0, api.ErrJob)
		wantPick(t, d, 0, api.Took, 1)
		wantSubmit(t, d, nil, 6, api.OK)
		wantSubmit(t, d, nil, 0, api.ErrFull)
		wantKill(t, d, 0, api.OK)
		wantSubmit(t, d, nil, 0, api.ErrFull)
		wantPick(t, d, 0, api.Took, 1)
		wantSubmit(t, d, nil, 0, api.ErrFull)
		wantEnded(t, d, 0, 1)
		wantSubmit(t, d, nil, 0, api.ErrFull)
		wantPick(t, d, 0, api.Took, 3)
		wantSubmit(t, d, nil, 7, api.OK)
	}
}

// urgentDesk is a desk of three workers with no patience: job 1, which raises
// the key 1, is urgent; worker 2 runs job 2, and job 4 waits.
func urgentDesk(t *testing.T) *desk.Desk {
	t.Helper()
	d := patient(t, 3, 0)
	wantSubmit(t, d, raises(1), 1, api.OK)
	wantPick(t, d, 0, api.Took, 1)
	wantSubmit(t, d, tells(2), 2, api.OK)
	wantPick(t, d, 2, api.Took, 2)
	disturb(t, d, 1, 3)
	wantRetried(t, d, 0, 1, 3)
	wantSubmit(t, d, tells(4), 4, api.OK)
	return d
}

// wantNothing: none of the workers does anything.
func wantNothing(t *testing.T, d *desk.Desk, workers ...int) {
	t.Helper()
	for _, worker := range workers {
		wantPick(t, d, worker, api.Nothing, 0)
	}
}

// P7, P9, example 9: as long as another worker runs an attempt, the urgent job
// waits, and nothing else is begun; then any worker takes it; and until it has
// ended the others do nothing.
func TestAnUrgentJobRunsAlone(t *testing.T) {
	for worker := range 3 {
		d := urgentDesk(t)
		wantNothing(t, d, 0, 1)
		wantPick(t, d, 2, api.Stepped, 2)
		wantNothing(t, d, 1, 0)
		wantPick(t, d, 2, api.Stepped, 2)
		wantPoll(t, d, 1, api.Waiting, 1)
		wantPick(t, d, 2, api.Ended, 2)
		wantPick(t, d, worker, api.Took, 1)
		wantPoll(t, d, 1, api.Running, 2)
		for range 4 {
			wantNothing(t, d, (worker+1)%3, (worker+2)%3)
			wantPick(t, d, worker, api.Stepped, 1)
		}
		wantNothing(t, d, (worker+1)%3, (worker+2)%3)
		wantPick(t, d, worker, api.Ended, 1)
		wantPoll(t, d, 1, api.Committed, 2)
		wantMap(t, d, 1, 51)
		wantAttempt(t, d, (worker+1)%3, 4, 2)
		wantNothing(t, d, 0, 1, 2)
	}
}

// P9: a job that is urgent is so to its end, however it ends; behind it the
// queue goes on.
func TestTheEndOfAnUrgentJob(t *testing.T) {
	once := append(raises(1), step(api.Get, 2, 9), step(api.Skip, 2, 1))
	for _, end := range []struct {
		last  api.Step
		state int
	}{{step(api.Undo), api.Undone}, {step(api.Sub, 3, 1), api.Faulted}, {step(api.Emit, 2), api.Committed}} {
		d := patient(t, 3, 0)
		wantSubmit(t, d, append(once, end.last), 1, api.OK)
		wantPick(t, d, 0, api.Took, 1)
		wantSubmit(t, d, append(puts(1, 50), puts(9, 1)...), 2, api.OK)
		wantAttempt(t, d, 1, 2, 4)
		wantRetried(t, d, 0, 1, 2) // it found nothing at the key 9
		fill(t, d, 2, 3)
		wantPick(t, d, 0, api.Took, 1)
		wantNothing(t, d, 1, 2)
		wantEnded(t, d, 0, 1)
		if o, _ := d.Poll(1); o.State != end.state || o.Tries != 2 {
			t.Errorf("the urgent job ended as %+v, want the state %d", o, end.state)
		}
		wantPick(t, d, 1, api.Took, 3)
		wantPick(t, d, 0, api.Took, 4)
		wantEnded(t, d, 0, 4)
		wantEnded(t, d, 1, 3)
		wantNothing(t, d, 0, 1, 2)
	}
}

// P11: an urgent job that is cancelled, waiting or running, holds nothing up.
func TestAnUrgentJobIsCancelled(t *testing.T) {
	d := urgentDesk(t)
	wantNothing(t, d, 0)
	wantCancel(t, d, 1, api.OK)
	wantPoll(t, d, 1, api.Cancelled, 1)
	wantPick(t, d, 0, api.Took, 4)
	wantEnded(t, d, 2, 2)
	wantEnded(t, d, 0, 4)
	wantNothing(t, d, 0, 1, 2)
	d = urgentDesk(t)
	wantEnded(t, d, 2, 2)
	wantPick(t, d, 1, api.Took, 1)
	wantNothing(t, d, 0)
	wantCancel(t, d, 1, api.OK)
	wantCancel(t, d, 1, api.ErrDone)
	wantPoll(t, d, 1, api.Cancelled, 2)
	wantPick(t, d, 1, api.Took, 4)
	wantNothing(t, d, 0, 2)
	wantMap(t, d, 1, 50)
}

// The worker that holds an urgent job up may be killed, or its job cancelled.
func TestWhatHoldsAnUrgentJobUp(t *testing.T) {
	d := urgentDesk(t)
	wantKill(t, d, 2, api.OK)
	wantAttempt(t, d, 2, 1, 4)
	wantAttempt(t, d, 0, 2, 2)
	wantAttempt(t, d, 0, 4, 2)
	d = urgentDesk(t)
	wantCancel(t, d, 2, api.OK)
	wantAttempt(t, d, 0, 1, 4)
	wantAttempt(t, d, 0, 4, 2)
}

// threeUrgent is a desk of four workers at which the jobs 1, 2 and 3 became
// urgent in the order 3, 1, 2; job 5 waits.
func threeUrgent(t *testing.T) *desk.Desk {
	t.Helper()
	d := patient(t, 4, 0)
	for i, worker := range []int{0, 2, 3} {
		wantSubmit(t, d, raises(1), i+1, api.OK)
		wantPick(t, d, worker, api.Took, i+1)
	}
	disturb(t, d, 1, 4)
	wantRetried(t, d, 3, 3, 4)
	fill(t, d, 1, 5)
	wantNothing(t, d, 1, 3)
	wantRetried(t, d, 0, 1, 4)
	wantNothing(t, d, 0, 1, 3)
	wantRetried(t, d, 2, 2, 4)
	return d
}

// P7: of several urgent jobs the one that has been so for longest is taken, one
// after the other; the queue waits for them all.
func TestSeveralUrgentJobs(t *testing.T) {
	d := threeUrgent(t)
	for i, ticket := range []int{3, 1, 2} {
		wantPick(t, d, i, api.Took, ticket)
		wantNothing(t, d, (i+1)%4, (i+2)%4, (i+3)%4)
		wantEnded(t, d, i, ticket)
		wantMap(t, d, 1, 51+i)
	}
	wantAttempt(t, d, 0, 5, 2)
}

// P12: an urgent job that is killed is the first of the urgent ones again.
func TestAnUrgentJobIsKilled(t *testing.T) {
	d := threeUrgent(t)
	for i, ticket := range []int{3, 1, 2} {
		for tries := 2; tries <= 5; tries++ {
			wantPick(t, d, tries%4, api.Took, ticket)
			wantPick(t, d, tries%4, api.Stepped, ticket)
			wantNothing(t, d, (tries+1)%4)
			wantKill(t, d, tries%4, api.OK)
			wantPoll(t, d, ticket, api.Waiting, tries)
		}
		wantAttempt(t, d, 0, ticket, 4)
		wantMap(t, d, 1, 51+i)
	}
	wantAttempt(t, d, 0, 5, 2)
}

// P11: any of several urgent jobs may be cancelled; the others keep their order.
func TestOneOfSeveralUrgentJobsIsCancelled(t *testing.T) {
	for cancelled := 1; cancelled <= 3; cancelled++ {
		for _, running := range []bool{false, true} {
			d := threeUrgent(t)
			if running {
				wantPick(t, d, 1, api.Took, 3)
			}
			wantCancel(t, d, cancelled, api.OK)
			if running && cancelled != 3 {
				wantNothing(t, d, 0)
				wantEnded(t, d, 1, 3)
			}
			for _, ticket := range []int{3, 1, 2} {
				if ticket != cancelled && (ticket != 3 || !running) {
					wantAttempt(t, d, 0, ticket, 4)
				}
			}
			wantAttempt(t, d, 0, 5, 2)
			wantMap(t, d, 1, 52)
		}
	}
}
