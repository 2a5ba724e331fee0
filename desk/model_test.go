package desk_test

import (
	"slices"
	"testing"

	"pivot/api"
	"pivot/desk"
	"pivot/engine"
	"pivot/job"
	"pivot/store"
)

// The model is a second reading of the promises P6, P7, P10 and P11: it runs a
// job at once when it is taken, with the calls of package job, and knows from
// then on what the worker's picks must tell. It holds for jobs whose attempts
// are all found good.
type model struct {
	config api.Config
	jobs   []modelJob
	queue  []int
	ran    []modelRun // by workers
	pairs  []api.Pair
}

type modelJob struct {
	steps   []api.Step
	outcome api.Outcome
}

// modelRun is what a worker still has to tell; the ticket is 0, if it is idle.
type modelRun struct {
	ticket  int
	stepped int
	outcome api.Outcome
	behind  []api.Pair
}

func (m *model) submit(steps []api.Step) (int, api.Errno) {
	switch {
	case job.Check(steps) != api.OK:
		return 0, api.ErrJob
	case len(m.queue) == m.config.Queue:
		return 0, api.ErrFull
	}
	m.jobs = append(m.jobs, modelJob{slices.Clone(steps), api.Outcome{State: api.Waiting}})
	m.queue = append(m.queue, len(m.jobs))
	return len(m.jobs), api.OK
}

// countSteps tells how often the job's run goes on before it ends.
func countSteps(steps []api.Step, pairs []api.Pair, fuel int) int {
	start, _ := store.FromPairs(pairs)
	r := engine.Begin(start)
	for n := 0; ; n++ {
		r.Next(steps, fuel)
		if r.State() != api.Running {
			return n
		}
	}
}

func (m *model) pick(worker int) (api.Note, api.Errno) {
	if worker < 0 || worker >= m.config.Workers {
		return api.Note{}, api.ErrWorker
	}
	w := &m.ran[worker]
	switch {
	case w.ticket == 0 && len(m.queue) == 0:
		return api.Note{}, api.OK
	case w.ticket == 0:
		ticket := m.queue[0]
		m.queue = m.queue[1:]
		j := &m.jobs[ticket-1]
		j.outcome = api.Outcome{State: api.Running, Tries: 1}
		outcome, behind, _ := job.Run(j.steps, m.pairs, m.config.Fuel)
		*w = modelRun{ticket, countSteps(j.steps, m.pairs, m.config.Fuel), outcome, behind}
		return api.Note{Kind: api.Took, Ticket: ticket}, api.OK
	case w.stepped > 0:
		w.stepped--
		return api.Note{Kind: api.Stepped, Ticket: w.ticket}, api.OK
	}
	note := api.Note{Kind: api.Ended, Ticket: w.ticket}
	m.jobs[w.ticket-1].outcome = w.outcome
	m.pairs = w.behind
	*w = modelRun{}
	return note, api.OK
}

func (m *model) poll(ticket int) (api.Outcome, api.Errno) {
	if ticket < 1 || ticket > len(m.jobs) {
		return api.Outcome{}, api.ErrTicket
	}
	return m.jobs[ticket-1].outcome, api.OK
}

func (m *model) cancel(ticket int) api.Errno {
	o, e := m.poll(ticket)
	if e != api.OK {
		return e
	}
	if o.State > api.Running {
		return api.ErrDone
	}
	m.jobs[ticket-1].outcome = api.Outcome{State: api.Cancelled, Tries: o.Tries}
	m.queue = slices.DeleteFunc(slices.Clone(m.queue), func(other int) bool { return other == ticket })
	for i := range m.ran {
		if m.ran[i].ticket == ticket {
			m.ran[i] = modelRun{}
		}
	}
	return api.OK
}

// numbers is a line of numbers that look unordered and are the same at every
// test run.
type numbers struct{ state uint64 }

func (n *numbers) below(limit int) int {
	n.state = n.state*6364136223846793005 + 1442695040888963407
	return int((n.state >> 33) % uint64(limit))
}

// anyJob is a list of steps, mostly a job. If it may not write, it has neither
// Put nor Del.
func anyJob(r *numbers, mayWrite bool) []api.Step {
	steps := make([]api.Step, r.below(9))
	for i := range steps {
		a, b, key := r.below(2), r.below(2), r.below(4)
		kinds := []api.Step{
			step(api.Const, a, []int{0, 1, 7, 999}[r.below(4)]), step(api.Get, a, key), step(api.Sum, a, key, key+r.below(12)), step(api.Count, a, key, 15),
			step(api.Add, a, b), step(api.Sub, a, b), step(api.Emit, a), step(api.Emit, b), step(api.Put, key, a), step(api.Put, key, b), step(api.Del, key),
		}
		if !mayWrite {
			kinds = kinds[:8]
		}
		steps[i] = kinds[r.below(len(kinds))]
		switch r.below(16) {
		case 0:
			steps[i] = step(api.Skip, a, 1+r.below(3))
		case 1:
			steps[i] = step(api.Back, a, 1+r.below(3))
		case 2:
			steps[i] = step(api.Undo)
		}
	}
	if r.below(20) == 0 {
		op := []int{0, api.Const, api.Get, api.Emit, api.Undo, 13}[r.below(6)]
		steps = append(steps, step(op, r.below(6)-1, r.below(18)-1, r.below(3)-1))
	}
	return steps
}

// oneOf is mostly a number from least to greatest, or beside, or far outside.
func oneOf(r *numbers, least, greatest int) int {
	if r.below(12) == 0 {
		return outside()[r.below(len(outside()))]
	}
	return least - 1 + r.below(greatest-least+3)
}

// pair is a desk and the model of it.
type pair struct {
	d        *desk.Desk
	m        *model
	mayWrite bool
	seen     map[string]int
}

func newPair(t *testing.T, r *numbers, workers int) *pair {
	c := api.Config{Workers: workers, Queue: 1 + r.below(8), Fuel: 1 + r.below(12), Patience: r.below(6)}
	return &pair{open(t, c), &model{config: c, ran: make([]modelRun, workers)}, workers == 1, map[string]int{}}
}

// call makes one call of the desk and of the model, which must answer the
// same; what was handed in and what came out is spoiled behind it.
func (p *pair) call(t *testing.T, r *numbers) {
	t.Helper()
	switch r.below(20) {
	case 0, 1, 2:
		steps := anyJob(r, p.mayWrite)
		want, wantE := p.m.submit(steps)
		wantSubmit(t, p.d, steps, want, wantE)
		p.seen["Submit"+string(rune('0'+wantE))]++
		spoil(steps, step(api.Undo))
	case 3:
		ticket := oneOf(r, max(1, len(p.m.jobs)-6), len(p.m.jobs)+1)
		want := p.m.cancel(ticket)
		wantCancel(t, p.d, ticket, want)
		p.seen["Cancel"+string(rune('0'+want))]++
	default:
		worker := oneOf(r, 0, p.m.config.Workers-1)
		want, wantE := p.m.pick(worker)
		if got, e := p.d.Pick(worker); got != want || e != wantE {
			t.Fatalf("Pick(%d) = %+v, %d, want %+v, %d", worker, got, e, want, wantE)
		}
		p.seen["Pick"+string(rune('0'+wantE))+"kind"+string(rune('0'+want.Kind))]++
	}
}

// compare asks for some jobs and the map.
func (p *pair) compare(t *testing.T, r *numbers) {
	t.Helper()
	newest := len(p.m.jobs)
	for _, ticket := range []int{newest + 1, newest, newest - 1, newest - 2, newest - 3, oneOf(r, 1, newest)} {
		want, wantE := p.m.poll(ticket)
		got, e := p.d.Poll(ticket)
		if e != wantE || got.State != want.State || got.Tries != want.Tries || !slices.Equal(got.Told, want.Told) {
			t.Fatalf("Poll(%d) = %+v, %d, want %+v, %d", ticket, got, e, want, wantE)
		}
		spoil(got.Told, -77)
		p.seen["Poll"+string(rune('0'+wantE))+"state"+string(rune('0'+want.State))]++
	}
	pairs := p.d.Map()
	if !slices.Equal(pairs, p.m.pairs) {
		t.Fatalf("Map() = %v, want %v", pairs, p.m.pairs)
	}
	spoil(pairs, api.Pair{Key: -77, Value: -77})
}

// P1, P2, P6, P7, P10, P11: many calls, wrong ones among them, of several desks
// in turn. One worker runs jobs of all kinds; several run jobs that write
// nothing, whose attempts are always found good.
func TestManyCallsAgainstTheModel(t *testing.T) {
	seen := map[string]int{}
	for round := range 60 {
		r := &numbers{state: uint64(round)}
		desks := []*pair{newPair(t, r, 1), newPair(t, r, 1), newPair(t, r, 2+r.below(3))}
		for range 3000 {
			p := desks[r.below(len(desks))]
			p.call(t, r)
			desks[r.below(len(desks))].compare(t, r)
		}
		for _, p := range desks {
			for what, n := range p.seen {
				seen[what] += n
			}
		}
	}
	// Were it otherwise, the loop would not have tried what it should.
	for _, what := range []string{
		"Submit0", "Submit1", "Submit5", "Cancel0", "Cancel8", "Cancel9", "Pick6kind0", "Pick0kind0", "Pick0kind1", "Pick0kind2", "Pick0kind3",
		"Poll8state0", "Poll0state1", "Poll0state2", "Poll0state3", "Poll0state4", "Poll0state5", "Poll0state6",
	} {
		if seen[what] < 200 {
			t.Errorf("%s was seen %d times only", what, seen[what])
		}
	}
}
