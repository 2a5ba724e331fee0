package desk

import "pivot/api"

// task is a job that was handed in.
type task struct {
	ticket int
	state  int
	tries  int
	steps  []api.Step // none any more, once it has come to its end
	told   []int      // nothing, until an attempt is found good
}

// end brings the task to its end. No attempt can follow, so the steps go.
func (t *task) end(state int) {
	t.state = state
	t.steps = nil
}

// find is the task of the ticket; nil, if there is none.
func (d *Desk) find(ticket int) *task {
	if ticket < 1 || ticket > len(d.tasks) {
		return nil
	}
	return d.tasks[ticket-1]
}

// without is a fresh list of the tasks but for the one of the ticket.
func without(tasks []*task, ticket int) []*task {
	rest := []*task{}
	for _, t := range tasks {
		if t.ticket != ticket {
			rest = append(rest, t)
		}
	}
	return rest
}
