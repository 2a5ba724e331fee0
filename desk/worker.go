package desk

import (
	"pivot/api"
	"pivot/engine"
)

// worker is the attempt that a worker runs.
type worker struct {
	task *task // nil, if it is idle
	run  engine.Run
}

// take lets an idle worker begin an attempt, if a job waits.
func (d *Desk) take(w *worker) api.Note {
	if len(d.queue) == 0 {
		return api.Note{Kind: api.Nothing}
	}
	t := d.queue[0]
	d.queue = without(d.queue, t.ticket)
	t.state = api.Running
	t.tries++
	w.task = t
	w.run = engine.Begin(d.values)
	return api.Note{Kind: api.Took, Ticket: t.ticket}
}

// goOn lets a worker that runs an attempt do the next step of it, or end it.
func (d *Desk) goOn(w *worker) api.Note {
	t := w.task
	w.run.Next(t.steps, d.config.Fuel)
	if w.run.State() == api.Running {
		return api.Note{Kind: api.Stepped, Ticket: t.ticket}
	}
	d.accept(w)
	return api.Note{Kind: api.Ended, Ticket: t.ticket}
}

// accept is what follows when the worker's attempt is found good.
func (d *Desk) accept(w *worker) {
	t := w.task
	state := w.run.State()
	t.end(state)
	t.told = w.run.Told()
	w.run.Apply(&d.values)
	w.rest()
}

// rest makes the worker idle; nothing of the attempt is kept.
func (w *worker) rest() {
	*w = worker{}
}

// release makes the worker idle that runs the job of the ticket, if one does.
func (d *Desk) release(ticket int) {
	for i := range d.workers {
		w := &d.workers[i]
		if w.task != nil && w.task.ticket == ticket {
			w.rest()
		}
	}
}
