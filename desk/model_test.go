package desk_test

import (
	"slices"

	"pivot/api"
	"pivot/job"
)

// The model is a second reading of the promises P6 to P12. It runs a job at once
// when it is taken and knows from then on what the worker's picks must tell; it
// keeps no queue, but gives every job that waits a place; and it forgets
// nothing, so that P8 can be read word for word.
type model struct {
	config      api.Config
	jobs        []modelJob
	ran         []modelRun // by workers
	good        []modelRun // by their numbers, from 1
	values      values
	first, last int // the places of the queue that have been given
	seen        map[string]int
}

type modelJob struct {
	steps   []api.Step
	outcome api.Outcome
	place   int
	nothing int // how many attempts came to nothing by P9
	urgent  int // when it became so; 0, if it is not
}

// modelRun is an attempt; the ticket is 0, if there is none.
type modelRun struct {
	ticket, beginning, done int
	trace
}

func newModel(c api.Config) *model {
	return &model{config: c, ran: make([]modelRun, c.Workers), values: noValues(), seen: map[string]int{}}
}

func (m *model) job(ticket int) *modelJob { return &m.jobs[ticket-1] }

// atTheEnd and ahead give the job a place in the queue.
func (m *model) atTheEnd(ticket int) {
	m.last++
	m.job(ticket).outcome.State = api.Waiting
	m.job(ticket).place = m.last
}

func (m *model) ahead(ticket int) {
	m.first--
	m.job(ticket).outcome.State = api.Waiting
	m.job(ticket).place = m.first
}

// tickets are those of the jobs in the state that are urgent or not.
func (m *model) tickets(state int, urgent bool) []int {
	out := []int{}
	for i, j := range m.jobs {
		if j.outcome.State == state && (j.urgent != 0) == urgent {
			out = append(out, i+1)
		}
	}
	return out
}

func (m *model) submit(steps []api.Step) (int, api.Errno) {
	switch {
	case job.Check(steps) != api.OK:
		return 0, api.ErrJob
	case len(m.tickets(api.Waiting, false))+len(m.tickets(api.Waiting, true)) >= m.config.Queue:
		return 0, api.ErrFull
	}
	m.jobs = append(m.jobs, modelJob{steps: slices.Clone(steps)})
	m.atTheEnd(len(m.jobs))
	return len(m.jobs), api.OK
}

// next is the ticket of the job that an idle worker takes; 0, if there is none.
func (m *model) next() int {
	urgent, running := m.tickets(api.Waiting, true), len(m.tickets(api.Running, true))+len(m.tickets(api.Running, false))
	switch {
	case len(m.tickets(api.Running, true)) > 0 || len(urgent) > 0 && running > 0:
		m.seen["held up"]++
		return 0
	case len(urgent) > 0:
		m.seen["urgent"]++
		if len(urgent) > 1 {
			m.seen["several urgent"]++
		}
		return slices.MinFunc(urgent, func(a, b int) int { return m.job(a).urgent - m.job(b).urgent })
	}
	waiting := m.tickets(api.Waiting, false)
	if len(waiting) == 0 {
		return 0
	}
	return slices.MinFunc(waiting, func(a, b int) int { return m.job(a).place - m.job(b).place })
}

func (m *model) pick(worker int) (api.Note, api.Errno) {
	if worker < 0 || worker >= m.config.Workers {
		return api.Note{}, api.ErrWorker
	}
	w := &m.ran[worker]
	if w.ticket == 0 {
		ticket := m.next()
		if ticket == 0 {
			return api.Note{}, api.OK
		}
		j := m.job(ticket)
		j.outcome.State = api.Running
		j.outcome.Tries++
		*w = modelRun{ticket: ticket, beginning: len(m.good), trace: traceOf(j.steps, m.values, m.config.Fuel)}
		return api.Note{Kind: api.Took, Ticket: ticket}, api.OK
	}
	if w.done < w.stepped {
		w.done++
		return api.Note{Kind: api.Stepped, Ticket: w.ticket}, api.OK
	}
	t := *w
	*w = modelRun{}
	return m.end(t), api.OK
}

// end looks at the attempt.
func (m *model) end(t modelRun) api.Note {
	partner, what := m.look(t)
	m.seen[what]++
	j := m.job(t.ticket)
	if partner != 0 {
		j.nothing++
		m.atTheEnd(t.ticket)
		if j.nothing > m.config.Patience {
			m.last++
			j.urgent = m.last
		}
		return api.Note{Kind: api.Retried, Ticket: t.ticket, Partner: partner}
	}
	m.good = append(m.good, t)
	j.outcome = api.Outcome{State: t.state, Told: t.told, Tries: j.outcome.Tries}
	for key := range m.values {
		if t.wrote&(1<<key) != 0 {
			m.values[key] = t.sees[key]
		}
	}
	return api.Note{Kind: api.Ended, Ticket: t.ticket}
}

// look is P8: the ticket of the partner, 0 if there is none, and the case.
func (m *model) look(t modelRun) (int, string) {
	at := func(number int) modelRun { return m.good[number-1] }
	for u := len(m.good); u > t.beginning; u-- {
		if at(u).wrote&t.wrote != 0 {
			return at(u).ticket, "CLASH"
		}
	}
	for v := t.beginning + 1; v <= len(m.good); v++ {
		for u := v; u <= len(m.good); u++ {
			if at(v).wrote&t.read != 0 && at(u).read&t.wrote != 0 {
				return at(v).ticket, "PIVOT"
			}
		}
	}
	spared := false
	for u := t.beginning + 1; u <= len(m.good); u++ {
		for v := at(u).beginning + 1; v < u; v++ {
			if at(u).wrote&t.read != 0 && at(v).wrote&at(u).read != 0 {
				if t.wrote != 0 || v <= t.beginning {
					return at(u).ticket, "OUTER"
				}
				spared = true
			}
		}
	}
	if spared {
		return 0, "good, as nothing was written"
	}
	return 0, "good"
}

func (m *model) poll(ticket int) (api.Outcome, api.Errno) {
	if ticket < 1 || ticket > len(m.jobs) {
		return api.Outcome{}, api.ErrTicket
	}
	return m.job(ticket).outcome, api.OK
}

func (m *model) cancel(ticket int) api.Errno {
	o, e := m.poll(ticket)
	if e != api.OK {
		return e
	}
	if o.State > api.Running {
		return api.ErrDone
	}
	m.job(ticket).outcome.State = api.Cancelled
	for i := range m.ran {
		if m.ran[i].ticket == ticket {
			m.ran[i] = modelRun{}
		}
	}
	return api.OK
}

func (m *model) kill(worker int) api.Errno {
	if worker < 0 || worker >= m.config.Workers {
		return api.ErrWorker
	}
	ticket := m.ran[worker].ticket
	if ticket == 0 {
		return api.ErrIdle
	}
	m.ran[worker] = modelRun{}
	m.ahead(ticket)
	if j := m.job(ticket); j.urgent != 0 {
		m.seen["urgent, killed"]++
		j.urgent = m.first
	}
	return api.OK
}
