package desk

import "pivot/api"

// task is a job that was handed in.
type task struct {
	ticket int
	state  int
	tries  int
	failed int        // how many attempts came to nothing when they were looked at
	steps  []api.Step // none any more, once it has come to its end
	told   []int      // nothing, until an attempt is found good
}

// end brings the task to its end. No attempt can follow, so the steps go.
func (t *task) end(state int) {
	t.state = state
	t.steps = nil
}

// find is the task of the ticket; nil, if there is none.
func (d *Desk) find(ticket int) *task {
	if ticket < 1 || ticket > len(d.tasks) {
		return nil
	}
	return d.tasks[ticket-1]
}

// isUrgent tells whether the task, which has not come to its end, is urgent.
func (d *Desk) isUrgent(t *task) bool {
	return t.failed > d.config.Patience
}

// waiting tells how many tasks wait.
func (d *Desk) waiting() int {
	n := len(d.queue)
	for _, t := range d.urgent {
		if t.state == api.Waiting {
			n++
		}
	}
	return n
}

// next is the task that an idle worker takes now; nil, if there is none. An
// urgent one is run alone.
func (d *Desk) next() *task {
	if len(d.urgent) > 0 {
		if d.allIdle() {
			return d.urgent[0]
		}
		return nil
	}
	if len(d.queue) > 0 {
		return d.queue[0]
	}
	return nil
}

// without is a fresh list of the tasks but for the one of the ticket.
func without(tasks []*task, ticket int) []*task {
	rest := []*task{}
	for _, t := range tasks {
		if t.ticket != ticket {
			rest = append(rest, t)
		}
	}
	return rest
}
