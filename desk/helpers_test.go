package desk_test

import (
	"math"
	"slices"
	"testing"

	"pivot/api"
	"pivot/desk"
)

// step is a step; operands that are left out are 0.
func step(op int, operands ...int) api.Step {
	all := [3]int{}
	copy(all[:], operands)
	return api.Step{Op: op, A: all[0], B: all[1], C: all[2]}
}

// puts is a job of two steps that gives the key a value.
func puts(key, value int) []api.Step {
	return []api.Step{step(api.Const, 0, value), step(api.Put, key, 0)}
}

// tells is a job of two steps that tells the value.
func tells(value int) []api.Step {
	return []api.Step{step(api.Const, 0, value), step(api.Emit, 0)}
}

// raises is a job of four steps that makes the key's value one more.
func raises(key int) []api.Step {
	return []api.Step{step(api.Get, 0, key), step(api.Const, 1, 1), step(api.Add, 0, 1), step(api.Put, key, 0)}
}

// touches is a job that gets some keys and then puts some.
func touches(read, wrote []int) []api.Step {
	steps := []api.Step{}
	for _, key := range read {
		steps = append(steps, step(api.Get, 0, key))
	}
	for _, key := range wrote {
		steps = append(steps, step(api.Put, key, 1))
	}
	return steps
}

// noJob is a list of steps that is no job.
func noJob() []api.Step { return []api.Step{step(api.Const, 0, 1000)} }

// config is a desk's configuration, with some patience.
func config(workers, queue, fuel int) api.Config {
	return api.Config{Workers: workers, Queue: queue, Fuel: fuel, Patience: 1}
}

func open(t *testing.T, c api.Config) *desk.Desk {
	t.Helper()
	d, e := desk.New(c)
	if d == nil || e != api.OK {
		t.Fatalf("New(%+v): %v, %d, want a desk", c, d, e)
	}
	return d
}

func wantSubmit(t *testing.T, d *desk.Desk, steps []api.Step, ticket int, errno api.Errno) {
	t.Helper()
	if got, e := d.Submit(steps); got != ticket || e != errno {
		t.Fatalf("Submit(%v) = %d, %d, want %d, %d", steps, got, e, ticket, errno)
	}
}

func wantPick(t *testing.T, d *desk.Desk, worker, kind, ticket int) {
	t.Helper()
	if got, e := d.Pick(worker); got != (api.Note{Kind: kind, Ticket: ticket}) || e != api.OK {
		t.Fatalf("Pick(%d) = %+v, %d, want the kind %d, the ticket %d", worker, got, e, kind, ticket)
	}
}

// wantAttempt picks the worker until it has taken the job, done so many steps
// in turn, and ended it.
func wantAttempt(t *testing.T, d *desk.Desk, worker, ticket, steps int) {
	t.Helper()
	wantPick(t, d, worker, api.Took, ticket)
	for range steps {
		wantPick(t, d, worker, api.Stepped, ticket)
	}
	wantPick(t, d, worker, api.Ended, ticket)
}

// finish picks the worker until its attempt of the job has ended, and is what
// the last pick told.
func finish(t *testing.T, d *desk.Desk, worker, ticket int) api.Note {
	t.Helper()
	for {
		note, e := d.Pick(worker)
		if e != api.OK || note.Ticket != ticket {
			t.Fatalf("Pick(%d) = %+v, %d, want the ticket %d", worker, note, e, ticket)
		}
		if note.Kind != api.Stepped {
			return note
		}
	}
}

func wantEnded(t *testing.T, d *desk.Desk, worker, ticket int) {
	t.Helper()
	if got := finish(t, d, worker, ticket); got != (api.Note{Kind: api.Ended, Ticket: ticket}) {
		t.Fatalf("the attempt of worker %d: %+v, want Ended, the ticket %d", worker, got, ticket)
	}
}

func wantRetried(t *testing.T, d *desk.Desk, worker, ticket, partner int) {
	t.Helper()
	if got := finish(t, d, worker, ticket); got != (api.Note{Kind: api.Retried, Ticket: ticket, Partner: partner}) {
		t.Fatalf("the attempt of worker %d: %+v, want Retried, the ticket %d, the partner %d", worker, got, ticket, partner)
	}
}

func wantPoll(t *testing.T, d *desk.Desk, ticket, state, tries int, told ...int) {
	t.Helper()
	o, e := d.Poll(ticket)
	if e != api.OK || o.State != state || o.Tries != tries || !slices.Equal(o.Told, told) {
		t.Fatalf("Poll(%d) = %+v, %d, want the state %d, %d tries, told %v", ticket, o, e, state, tries, told)
	}
}

func wantNoTicket(t *testing.T, d *desk.Desk, ticket int) {
	t.Helper()
	if o, e := d.Poll(ticket); e != api.ErrTicket || o.State != 0 || o.Tries != 0 || len(o.Told) != 0 {
		t.Fatalf("Poll(%d) = %+v, %d, want ErrTicket", ticket, o, e)
	}
}

// wantMap: keys and values in turn.
func wantMap(t *testing.T, d *desk.Desk, l ...int) {
	t.Helper()
	want := []api.Pair{}
	for i := 0; i+1 < len(l); i += 2 {
		want = append(want, api.Pair{Key: l[i], Value: l[i+1]})
	}
	if got := d.Map(); !slices.Equal(got, want) {
		t.Fatalf("Map() = %v, want %v", got, want)
	}
}

func wantCancel(t *testing.T, d *desk.Desk, ticket int, errno api.Errno) {
	t.Helper()
	if e := d.Cancel(ticket); e != errno {
		t.Fatalf("Cancel(%d) = %d, want %d", ticket, e, errno)
	}
}

func wantKill(t *testing.T, d *desk.Desk, worker int, errno api.Errno) {
	t.Helper()
	if e := d.Kill(worker); e != errno {
		t.Fatalf("Kill(%d) = %d, want %d", worker, e, errno)
	}
}

// outside are numbers far from all that may be.
func outside() []int {
	return []int{math.MinInt, math.MinInt + 1, math.MinInt32, -1, math.MaxInt32, 1 << 32, math.MaxInt}
}

// spoil writes into a list and into its spare room.
func spoil[E any](l []E, with E) {
	l = l[:cap(l)]
	for i := range l {
		l[i] = with
	}
}
