package desk_test

import (
	"fmt"
	"slices"
	"testing"

	"pivot/api"
	"pivot/desk"
)

// numbers is a line of numbers that look unordered and are the same at every
// test run.
type numbers struct{ state uint64 }

func (n *numbers) below(limit int) int {
	n.state = n.state*6364136223846793005 + 1442695040888963407
	return int((n.state >> 33) % uint64(limit))
}

// plainJob reads some of the keys, tells what it saw, and may write one: such
// jobs get into one another's way in all the ways of P8.
func plainJob(r *numbers, keys int) []api.Step {
	steps := []api.Step{step(api.Const, 1, 1+r.below(9))}
	for range 1 + r.below(2) {
		steps = append(steps, step(api.Get, 0, r.below(keys)), step(api.Emit, 0))
	}
	if r.below(4) > 0 {
		steps = append(steps, step(api.Put, r.below(keys), 1))
	}
	return steps
}

// anyJob is a list of steps, mostly a job, on so many of the keys.
func anyJob(r *numbers, keys int) []api.Step {
	if r.below(2) == 0 {
		return plainJob(r, keys)
	}
	steps := make([]api.Step, r.below(9))
	for i := range steps {
		a, b, key := r.below(2), r.below(2), r.below(keys)
		steps[i] = []api.Step{
			step(api.Const, a, []int{0, 1, 7, 999}[r.below(4)]), step(api.Add, a, b), step(api.Sub, a, b), step(api.Emit, a), step(api.Emit, b),
			step(api.Get, a, key), step(api.Get, b, key), step(api.Sum, a, key, min(15, key+r.below(3))), step(api.Count, a, key, min(15, key+r.below(3))),
			step(api.Put, key, a), step(api.Put, key, b), step(api.Del, key),
		}[r.below(12)]
		switch r.below(24) {
		case 0:
			steps[i] = step(api.Skip, a, 1+r.below(3))
		case 1:
			steps[i] = step(api.Back, a, 1+r.below(3))
		case 2:
			steps[i] = step(api.Undo)
		}
	}
	if r.below(20) == 0 {
		op := []int{0, api.Const, api.Get, api.Emit, api.Undo, 13}[r.below(6)]
		steps = append(steps, step(op, r.below(6)-1, r.below(18)-1, r.below(3)-1))
	}
	return steps
}

// oneOf is mostly a number from least to greatest, or beside, or far outside.
func oneOf(r *numbers, least, greatest int) int {
	switch r.below(20) {
	case 0:
		return outside()[r.below(len(outside()))]
	case 1:
		return least - 1
	case 2:
		return greatest + 1
	}
	return least + r.below(greatest-least+1)
}

// pair is a desk and the model of it.
type pair struct {
	d    *desk.Desk
	m    *model
	keys int
}

func newPair(t *testing.T, r *numbers, workers int) *pair {
	c := api.Config{Workers: workers, Queue: 1 + r.below(8), Fuel: 4 + r.below(9), Patience: r.below(6) * r.below(2)}
	return &pair{open(t, c), newModel(c), 2 + r.below(15)}
}

// call makes one call of the desk and of the model, which must answer the
// same; what was handed in and what came out is spoiled behind it.
func (p *pair) call(t *testing.T, r *numbers) {
	t.Helper()
	what := ""
	switch r.below(60) {
	case 0, 1, 2, 3, 4, 5, 6, 7, 8:
		steps := anyJob(r, p.keys)
		want, wantE := p.m.submit(steps)
		wantSubmit(t, p.d, steps, want, wantE)
		what = fmt.Sprint("Submit ", wantE)
		spoil(steps, step(api.Undo))
	case 9:
		ticket := oneOf(r, max(1, len(p.m.jobs)-6), max(1, len(p.m.jobs)))
		want := p.m.cancel(ticket)
		wantCancel(t, p.d, ticket, want)
		what = fmt.Sprint("Cancel ", want)
	case 10:
		worker := oneOf(r, 0, p.m.config.Workers-1)
		want := p.m.kill(worker)
		wantKill(t, p.d, worker, want)
		what = fmt.Sprint("Kill ", want)
	default:
		worker := oneOf(r, 0, p.m.config.Workers-1)
		want, wantE := p.m.pick(worker)
		if got, e := p.d.Pick(worker); got != want || e != wantE {
			t.Fatalf("Pick(%d) = %+v, %d, want %+v, %d", worker, got, e, want, wantE)
		}
		if want.Kind == api.Retried && p.m.job(want.Ticket).nothing > p.m.config.Patience+1 {
			t.Fatalf("P13: an attempt of the urgent job %d came to nothing", want.Ticket)
		}
		what = fmt.Sprint("Pick ", wantE, " ", want.Kind)
	}
	p.m.seen[what]++
}

// compare asks for some jobs and the map.
func (p *pair) compare(t *testing.T, r *numbers) {
	t.Helper()
	newest := len(p.m.jobs)
	for _, ticket := range []int{newest + 1, newest, newest - 1, newest - 2, newest - 3, oneOf(r, 1, max(1, newest))} {
		want, wantE := p.m.poll(ticket)
		got, e := p.d.Poll(ticket)
		if e != wantE || got.State != want.State || got.Tries != want.Tries || !slices.Equal(got.Told, want.Told) {
			t.Fatalf("Poll(%d) = %+v, %d, want %+v, %d", ticket, got, e, want, wantE)
		}
		spoil(got.Told, -77)
		p.m.seen[fmt.Sprint("Poll ", wantE, " ", want.State)]++
	}
	pairs := p.d.Map()
	if !slices.Equal(pairs, p.m.values.pairs()) {
		t.Fatalf("Map() = %v, want %v", pairs, p.m.values.pairs())
	}
	spoil(pairs, api.Pair{Key: -77, Value: -77})
}

// P1, P2, P6 to P13: many calls, wrong ones among them, of several desks in
// turn.
func TestManyCallsAgainstTheModel(t *testing.T) {
	seen := map[string]int{}
	for round := range 300 {
		r := &numbers{state: uint64(round)}
		desks := []*pair{newPair(t, r, 1), newPair(t, r, 2+r.below(2)), newPair(t, r, 4), newPair(t, r, 4)}
		for range 3000 {
			p := desks[r.below(len(desks))]
			p.call(t, r)
			desks[r.below(len(desks))].compare(t, r)
		}
		for _, p := range desks {
			wantSerial(t, p)
			for what, n := range p.m.seen {
				seen[what] += n
			}
		}
	}
	// Were it otherwise, the loop would not have tried what it should.
	for _, what := range []string{
		"Submit 0", "Submit 1", "Submit 5", "Cancel 0", "Cancel 8", "Cancel 9", "Kill 0", "Kill 6", "Kill 7",
		"Pick 6 0", "Pick 0 0", "Pick 0 1", "Pick 0 2", "Pick 0 3", "Pick 0 4",
		"Poll 8 0", "Poll 0 1", "Poll 0 2", "Poll 0 3", "Poll 0 4", "Poll 0 5", "Poll 0 6",
		"CLASH", "PIVOT", "OUTER", "good, as nothing was written", "good", "held up", "urgent", "several urgent", "urgent, killed",
	} {
		if seen[what] < 60 {
			t.Errorf("%s was seen %d times only", what, seen[what])
		}
	}
}
