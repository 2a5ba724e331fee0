package desk_test

import (
	"slices"
	"testing"

	"pivot/api"
)

// P2: Submit writes neither into the steps nor into their spare room, be they a
// job or not, and what stands in the spare room counts for nothing.
func TestSubmitLeavesTheStepsAlone(t *testing.T) {
	d := open(t, config(1, 2, 9))
	spare := []api.Step{step(api.Undo), step(99, 1, 2, 3)}
	whole := slices.Concat(tells(5), spare)
	wantSubmit(t, d, whole[:2], 1, api.OK)
	wantSubmit(t, d, whole[:1], 2, api.OK)
	wantSubmit(t, d, whole[:1], 0, api.ErrFull)
	wantSubmit(t, d, whole, 0, api.ErrJob)
	wantAttempt(t, d, 0, 1, 2)
	wantAttempt(t, d, 0, 2, 1)
	wantPoll(t, d, 1, api.Committed, 1, 5)
	wantPoll(t, d, 2, api.Committed, 1)
	if !slices.Equal(whole, slices.Concat(tells(5), spare)) {
		t.Errorf("the steps are now %v", whole)
	}
}

// P2: the steps are not kept: what their owner writes into them later changes
// nothing, be the job waiting or running.
func TestSubmitDoesNotKeepTheSteps(t *testing.T) {
	d := open(t, config(1, 2, 9))
	steps := tells(5)
	wantSubmit(t, d, steps, 1, api.OK)
	spoil(steps, step(api.Undo))
	copy(steps, tells(6))
	wantSubmit(t, d, steps, 2, api.OK)
	spoil(steps, step(99))
	wantPick(t, d, 0, api.Took, 1)
	spoil(steps, step(api.Undo))
	wantPick(t, d, 0, api.Stepped, 1)
	spoil(steps, step(99))
	wantPick(t, d, 0, api.Stepped, 1)
	wantPick(t, d, 0, api.Ended, 1)
	wantAttempt(t, d, 0, 2, 2)
	wantPoll(t, d, 1, api.Committed, 1, 5)
	wantPoll(t, d, 2, api.Committed, 1, 6)
}

// P2: what Poll and Map answer is the caller's, with its spare room; nothing
// that comes out later, of them or of a job that runs, is changed by what is
// written into it.
func TestListsThatComeOutAreFresh(t *testing.T) {
	d := open(t, config(1, 3, 9))
	three := []api.Step{step(api.Const, 0, 4), step(api.Put, 1, 0), step(api.Put, 2, 0), step(api.Emit, 0), step(api.Emit, 1), step(api.Emit, 0)}
	again := []api.Step{step(api.Get, 0, 1), step(api.Emit, 0), step(api.Put, 3, 0)}
	wantSubmit(t, d, three, 1, api.OK)
	wantSubmit(t, d, again, 2, api.OK)
	spoilAnswers := func() {
		for ticket := -1; ticket <= 3; ticket++ {
			o, _ := d.Poll(ticket)
			spoil(o.Told, -77)
		}
		spoil(d.Map(), api.Pair{Key: -77, Value: -77})
	}
	spoilAnswers()
	wantAttempt(t, d, 0, 1, 6)
	first, _ := d.Poll(1)
	before := d.Map()
	spoilAnswers()
	wantPick(t, d, 0, api.Took, 2)
	for range 3 {
		spoilAnswers()
		wantPick(t, d, 0, api.Stepped, 2)
	}
	wantPick(t, d, 0, api.Ended, 2)
	spoilAnswers()
	wantPoll(t, d, 1, api.Committed, 1, 4, 0, 4)
	wantPoll(t, d, 2, api.Committed, 1, 4)
	wantMap(t, d, 1, 4, 2, 4, 3, 4)
	if !slices.Equal(first.Told, []int{4, 0, 4}) || len(before) != 2 {
		t.Errorf("answers of earlier calls were changed to %v, %v", first.Told, before)
	}
}

// P2: desks do not touch one another: two do the same jobs in turn with other
// numbers, and a third does nothing.
func TestDesksDoNotTouchOneAnother(t *testing.T) {
	a, b, c := open(t, config(1, 2, 9)), open(t, config(1, 2, 9)), open(t, config(1, 2, 9))
	wantSubmit(t, a, puts(1, 5), 1, api.OK)
	wantSubmit(t, b, puts(2, 6), 1, api.OK)
	wantPick(t, c, 0, api.Nothing, 0)
	wantPick(t, a, 0, api.Took, 1)
	wantPick(t, c, 0, api.Nothing, 0)
	wantPoll(t, b, 1, api.Waiting, 0)
	wantPick(t, b, 0, api.Took, 1)
	wantPick(t, a, 0, api.Stepped, 1)
	wantPick(t, b, 0, api.Stepped, 1)
	wantPick(t, a, 0, api.Stepped, 1)
	wantPick(t, a, 0, api.Ended, 1)
	wantMap(t, b)
	wantPoll(t, b, 1, api.Running, 1)
	wantCancel(t, b, 1, api.OK)
	wantPoll(t, a, 1, api.Committed, 1)
	wantSubmit(t, b, tells(3), 2, api.OK)
	wantAttempt(t, b, 0, 2, 2)
	wantPick(t, a, 0, api.Nothing, 0)
	wantMap(t, a, 1, 5)
	wantMap(t, b)
	wantMap(t, c)
	wantNoTicket(t, a, 2)
	wantNoTicket(t, c, 1)
}
