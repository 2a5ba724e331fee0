package desk

import (
	"pivot/api"
	"pivot/engine"
	"pivot/history"
)

// worker is the attempt that a worker runs.
type worker struct {
	task      *task // nil, if it is idle
	beginning int
	run       engine.Run
}

// worker is the worker of the number; nil, if there is none.
func (d *Desk) worker(number int) *worker {
	if number < 0 || number >= len(d.workers) {
		return nil
	}
	return &d.workers[number]
}

// allIdle tells whether no worker runs an attempt.
func (d *Desk) allIdle() bool {
	for _, w := range d.workers {
		if w.task != nil {
			return false
		}
	}
	return true
}

// take lets an idle worker begin an attempt, if there is a job to take.
func (d *Desk) take(w *worker) api.Note {
	t := d.next()
	if t == nil {
		return api.Note{Kind: api.Nothing}
	}
	d.queue = without(d.queue, t.ticket)
	t.state = api.Running
	t.tries++
	w.task = t
	w.beginning = d.past.Count()
	w.run = engine.Begin(d.values)
	return api.Note{Kind: api.Took, Ticket: t.ticket}
}

// goOn lets a worker that runs an attempt do the next step of it, or end it.
func (d *Desk) goOn(w *worker) api.Note {
	t := w.task
	w.run.Next(t.steps, d.config.Fuel)
	if w.run.State() == api.Running {
		return api.Note{Kind: api.Stepped, Ticket: t.ticket}
	}
	return d.look(w)
}

// look looks at the worker's attempt, which has ended (P8).
func (d *Desk) look(w *worker) api.Note {
	ticket := w.task.ticket
	attempt := w.attempt()
	partner := d.past.Partner(attempt)
	if partner != 0 {
		d.retry(w)
		return api.Note{Kind: api.Retried, Ticket: ticket, Partner: partner}
	}
	d.past.Add(attempt)
	d.accept(w)
	return api.Note{Kind: api.Ended, Ticket: ticket}
}

// attempt is what counts of the worker's attempt when it is looked at.
func (w *worker) attempt() history.Attempt {
	read := w.run.Read()
	wrote := w.run.Wrote()
	return history.Attempt{Ticket: w.task.ticket, Beginning: w.beginning, Read: read, Wrote: wrote}
}

// retry is what follows when the worker's attempt comes to nothing (P9).
func (d *Desk) retry(w *worker) {
	t := w.task
	t.state = api.Waiting
	t.failed++
	if d.isUrgent(t) {
		d.urgent = append(d.urgent, t)
	} else {
		d.queue = append(d.queue, t)
	}
	d.rest(w)
}

// accept is what follows when the worker's attempt is found good (P8).
func (d *Desk) accept(w *worker) {
	t := w.task
	state := w.run.State()
	t.end(state)
	t.told = w.run.Told()
	w.run.Apply(&d.values)
	d.urgent = without(d.urgent, t.ticket)
	d.rest(w)
}

// release makes the worker idle that runs the job of the ticket, if one does.
func (d *Desk) release(ticket int) {
	for i := range d.workers {
		w := &d.workers[i]
		if w.task != nil && w.task.ticket == ticket {
			d.rest(w)
		}
	}
}

// rest makes the worker idle. Nothing of its attempt is kept, nor what no other
// attempt that runs can meet.
func (d *Desk) rest(w *worker) {
	*w = worker{}
	least := d.past.Count()
	for _, other := range d.workers {
		if other.task != nil && other.beginning < least {
			least = other.beginning
		}
	}
	d.past.Forget(least)
}
