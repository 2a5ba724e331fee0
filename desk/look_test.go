package desk_test

import (
	"slices"
	"testing"

	"pivot/api"
	"pivot/desk"
)

// scene is a desk of four workers at which jobs are begun and ended one by one.
type scene struct {
	t  *testing.T
	d  *desk.Desk
	by [4]int // the ticket that each worker runs
}

// stage is a scene with the jobs, of the tickets 1, 2, .., waiting.
func stage(t *testing.T, jobs ...[]api.Step) *scene {
	t.Helper()
	s := &scene{t: t, d: open(t, config(4, 8, 20))}
	for i, steps := range jobs {
		wantSubmit(t, s.d, steps, i+1, api.OK)
	}
	return s
}

// takes lets idle workers take the jobs, which must be the first of the queue.
func (s *scene) takes(tickets ...int) *scene {
	s.t.Helper()
	for _, ticket := range tickets {
		worker := slices.Index(s.by[:], 0)
		wantPick(s.t, s.d, worker, api.Took, ticket)
		s.by[worker] = ticket
	}
	return s
}

// ends ends the jobs' attempts, which must be found good.
func (s *scene) ends(tickets ...int) *scene {
	s.t.Helper()
	for _, ticket := range tickets {
		worker := slices.Index(s.by[:], ticket)
		wantEnded(s.t, s.d, worker, ticket)
		s.by[worker] = 0
	}
	return s
}

// fails ends the job's attempt, which must come to nothing.
func (s *scene) fails(ticket, partner int) *scene {
	s.t.Helper()
	worker := slices.Index(s.by[:], ticket)
	wantRetried(s.t, s.d, worker, ticket, partner)
	s.by[worker] = 0
	return s
}

type keyList = []int

// P8, P9, example 6: a CLASH.
func TestExampleOfAClash(t *testing.T) {
	d := open(t, config(2, 4, 20))
	wantSubmit(t, d, raises(1), 1, api.OK)
	wantSubmit(t, d, raises(1), 2, api.OK)
	wantPick(t, d, 0, api.Took, 1)
	wantPick(t, d, 1, api.Took, 2)
	for range 4 {
		wantPick(t, d, 0, api.Stepped, 1)
	}
	wantPick(t, d, 0, api.Ended, 1)
	wantMap(t, d, 1, 1)
	for range 4 {
		wantPick(t, d, 1, api.Stepped, 2)
	}
	wantRetried(t, d, 1, 2, 1)
	wantPoll(t, d, 2, api.Waiting, 1)
	wantMap(t, d, 1, 1)
	wantAttempt(t, d, 1, 2, 4)
	wantMap(t, d, 1, 2)
	wantPoll(t, d, 1, api.Committed, 1)
	wantPoll(t, d, 2, api.Committed, 2)
}

// P8, P9, example 7: a PIVOT.
func TestExampleOfAPivot(t *testing.T) {
	second := []api.Step{step(api.Get, 0, 2), step(api.Const, 1, 1), step(api.Add, 0, 1), step(api.Put, 1, 0)}
	s := stage(t, touches(keyList{1}, keyList{2}), second).takes(1, 2).ends(1).fails(2, 1)
	wantMap(t, s.d, 2, 0)
	s.takes(2).ends(2)
	wantMap(t, s.d, 1, 1, 2, 0)
}

// P8, P9: what an attempt that came to nothing put and told is dropped; the next
// one begins anew, over the map as it is then.
func TestAnAttemptThatComesToNothing(t *testing.T) {
	tells := append([]api.Step{step(api.Get, 0, 1), step(api.Emit, 0), step(api.Put, 7, 0), step(api.Del, 8)}, raises(1)...)
	s := stage(t, append(puts(1, 5), puts(8, 6)...), tells, puts(1, 20))
	s.takes(1).ends(1).takes(2, 3).ends(3).fails(2, 3)
	wantPoll(t, s.d, 2, api.Waiting, 1)
	wantMap(t, s.d, 1, 20, 8, 6)
	s.takes(2)
	wantPoll(t, s.d, 2, api.Running, 2)
	s.ends(2)
	wantPoll(t, s.d, 2, api.Committed, 2, 20)
	wantMap(t, s.d, 1, 21, 7, 20)
}

// P8: two that wrote the same key clash, whether they read it or not, put or
// deleted it, and whether that changed anything.
func TestAllWritesClash(t *testing.T) {
	for _, first := range [][]api.Step{puts(1, 0), {step(api.Del, 1)}, raises(1), {step(api.Put, 0), step(api.Del, 1), step(api.Put, 2)}} {
		for _, second := range [][]api.Step{puts(1, 0), {step(api.Del, 1)}, raises(1), {step(api.Put, 1), step(api.Del, 1)}} {
			stage(t, first, second).takes(1, 2).ends(1).fails(2, 1)
			stage(t, first, second).takes(1).ends(1).takes(2).ends(2)
			stage(t, first, second).takes(1, 2).ends(2).fails(1, 2)
		}
	}
}

// P8: an attempt that ended as Undone or Faulted wrote nothing.
func TestWhatIsUndoneOrFaultedDoesNotClash(t *testing.T) {
	for _, end := range []api.Step{step(api.Undo), step(api.Sub, 1, 2)} {
		dropped := []api.Step{step(api.Const, 2, 9), step(api.Put, 1, 2), end}
		s := stage(t, dropped, puts(1, 3)).takes(1, 2).ends(1, 2)
		wantMap(t, s.d, 1, 3)
		s = stage(t, dropped, puts(1, 3)).takes(1, 2).ends(2, 1)
		wantMap(t, s.d, 1, 3)
	}
	endless := []api.Step{step(api.Const, 0, 1), step(api.Put, 1, 0), step(api.Back, 0, 1)}
	s := stage(t, endless, puts(1, 3)).takes(1, 2).ends(2, 1)
	wantPoll(t, s.d, 1, api.Faulted, 1)
	stage(t, endless, puts(1, 3)).takes(1, 2).ends(1, 2)
}

// P8: the partner of a CLASH is the last one that wrote such a key.
func TestThePartnerOfAClash(t *testing.T) {
	jobs := [][]api.Step{touches(nil, keyList{1, 2}), puts(1, 1), puts(2, 2), puts(3, 3)}
	stage(t, jobs...).takes(1, 2, 3, 4).ends(2, 3, 4).fails(1, 3)
	stage(t, jobs...).takes(1, 2, 3, 4).ends(3, 2, 4).fails(1, 2)
	stage(t, jobs...).takes(1, 2, 3, 4).ends(4, 2).fails(1, 2)
	stage(t, jobs...).takes(1, 2, 3, 4).ends(4, 1).fails(2, 1).fails(3, 1)
}

// P8: the keys that a Get, Sum or Count asks for are read, all from the first to
// the last, and no others.
func TestWhatIsRead(t *testing.T) {
	all := map[api.Step]bool{
		step(api.Get, 0, 6): true, step(api.Get, 0, 5): false, step(api.Get, 0, 7): false,
		step(api.Sum, 0, 6, 6): true, step(api.Sum, 0, 3, 6): true, step(api.Sum, 0, 6, 15): true, step(api.Sum, 0, 0, 5): false, step(api.Sum, 0, 7, 15): false, step(api.Sum, 0, 0, 15): true,
		step(api.Count, 0, 6, 6): true, step(api.Count, 0, 3, 6): true, step(api.Count, 0, 6, 15): true, step(api.Count, 0, 0, 5): false, step(api.Count, 0, 7, 15): false, step(api.Count, 0, 0, 15): true,
		step(api.Const, 0, 6): false, step(api.Add, 0, 1): false, step(api.Emit, 0): false,
	}
	for ask, read := range all {
		s := stage(t, touches(keyList{5}, keyList{6}), []api.Step{ask, step(api.Put, 5, 0)}).takes(1, 2).ends(1)
		if read {
			s.fails(2, 1)
		} else {
			s.ends(2)
		}
	}
}

// P8: in a PIVOT U may have ended as Undone or Faulted; what it had put or
// deleted itself before it asked is not read, what it put later is.
func TestWhatIsReadByOneThatIsDropped(t *testing.T) {
	get, put, del := step(api.Get, 0, 5), step(api.Put, 5, 0), step(api.Del, 5)
	sum, count := step(api.Sum, 0, 4, 6), step(api.Count, 0, 4, 6)
	for _, end := range [][]api.Step{{step(api.Undo)}, {step(api.Const, 3, 1), step(api.Sub, 2, 3)}} {
		for _, c := range []struct {
			steps []api.Step
			read  bool
		}{
			{[]api.Step{get}, true}, {[]api.Step{sum}, true}, {[]api.Step{count}, true}, {[]api.Step{get, put}, true}, {[]api.Step{count, del, get}, true},
			{nil, false}, {[]api.Step{put}, false}, {[]api.Step{put, get}, false}, {[]api.Step{del, sum}, false}, {[]api.Step{put, count, get}, false},
		} {
			s := stage(t, touches(keyList{9}, keyList{5}), slices.Concat(c.steps, end), puts(9, 1)).takes(1, 2, 3).ends(3, 2)
			if c.read {
				s.fails(1, 3)
			} else {
				s.ends(1)
			}
		}
	}
}

// P8: a Sum that is a FAULT has read what it asked for.
func TestAFaultReads(t *testing.T) {
	great := []api.Step{step(api.Const, 0, 999), step(api.Add, 0, 0), step(api.Add, 0, 0), step(api.Add, 0, 0), step(api.Put, 4, 0), step(api.Put, 5, 0)}
	s := stage(t, great, touches(keyList{9}, keyList{6}), []api.Step{step(api.Sum, 0, 4, 6)}, puts(9, 1))
	s.takes(1).ends(1).takes(2, 3, 4).ends(4, 3).fails(2, 4)
	wantPoll(t, s.d, 3, api.Faulted, 1)
}

// P8: in a PIVOT, V comes ahead of U or is U, both are later than the
// beginning, and the partner is the first V.
func TestTheOrderInAPivot(t *testing.T) {
	pivot, v, u, other := touches(keyList{1, 2}, keyList{3}), puts(1, 1), touches(keyList{3}, nil), puts(2, 2)
	jobs := [][]api.Step{pivot, v, u, other}
	stage(t, jobs...).takes(1, 2, 3, 4).ends(2, 3).fails(1, 2)
	stage(t, jobs...).takes(1, 2, 3, 4).ends(3, 2, 1)
	stage(t, jobs...).takes(1, 2, 3, 4).ends(2, 4, 3).fails(1, 2)
	stage(t, jobs...).takes(1, 2, 3, 4).ends(4, 2, 3).fails(1, 4)
	stage(t, jobs...).takes(1, 2, 3, 4).ends(4, 3, 2).fails(1, 4)
	stage(t, jobs...).takes(1, 2, 3, 4).ends(3, 4, 2, 1)
	jobs = [][]api.Step{v, pivot, u, other}
	stage(t, jobs...).takes(1).ends(1).takes(2, 3).ends(3, 2)
	stage(t, jobs...).takes(1).ends(1).takes(2, 3, 4).ends(4, 3).fails(2, 4)
	jobs = [][]api.Step{u, pivot, v, u}
	stage(t, jobs...).takes(1).ends(1).takes(2, 3).ends(3, 2)
	stage(t, jobs...).takes(1).ends(1).takes(2, 3, 4).ends(3, 4).fails(2, 3)
}

// P8, example 8: to have read what another wrote is not enough, nor to have
// written what another read.
func TestOneWay(t *testing.T) {
	reader, writer := touches(keyList{1}, keyList{2}), puts(1, 4)
	s := stage(t, reader, writer).takes(1, 2).ends(2, 1)
	wantMap(t, s.d, 1, 4, 2, 0)
	s = stage(t, reader, writer).takes(1, 2).ends(1, 2)
	wantMap(t, s.d, 1, 4, 2, 0)
}

// P8: an OUTER: T read what U wrote, and U what V wrote; V ended ahead of U, and
// behind U's beginning.
func TestOuter(t *testing.T) {
	v, u, last := puts(1, 4), touches(keyList{1}, keyList{2}), touches(keyList{2}, keyList{3})
	jobs := [][]api.Step{v, u, last}
	stage(t, jobs...).takes(1, 2, 3).ends(1, 2).fails(3, 2)
	stage(t, jobs...).takes(1, 2).ends(1).takes(3).ends(2).fails(3, 2)
	stage(t, jobs...).takes(1, 2).ends(1, 2).takes(3).ends(3)
	stage(t, jobs...).takes(1).ends(1).takes(2, 3).ends(2, 3)
	stage(t, jobs...).takes(1, 2, 3).ends(2, 1, 3)
	stage(t, jobs...).takes(1, 2, 3).ends(2, 3, 1)
	two := [][]api.Step{v, u, touches(keyList{1}, keyList{5}), touches(keyList{5, 2}, keyList{3})}
	stage(t, two...).takes(1, 2, 3, 4).ends(1, 2, 3).fails(4, 2)
	stage(t, two...).takes(1, 2, 3, 4).ends(1, 3, 2).fails(4, 3)
	stage(t, two...).takes(1, 2, 3, 4).ends(2, 1, 3).fails(4, 3)
}

// P8: if T wrote nothing, be it that it is Undone or Faulted, V must have ended
// ahead of T's beginning too.
func TestOuterOfOneThatWroteNothing(t *testing.T) {
	v, u := puts(1, 4), touches(keyList{1}, keyList{2})
	for _, last := range [][]api.Step{
		touches(keyList{2}, nil), {step(api.Count, 0, 0, 15), step(api.Emit, 0)},
		append(touches(keyList{2}, keyList{3}), step(api.Undo)), append(touches(keyList{2}, keyList{3}), step(api.Const, 2, 1), step(api.Sub, 3, 2)),
	} {
		jobs := [][]api.Step{v, u, last}
		stage(t, jobs...).takes(1, 2, 3).ends(1, 2, 3)
		stage(t, jobs...).takes(1, 2).ends(1).takes(3).ends(2).fails(3, 2).takes(3).ends(3)
		stage(t, jobs...).takes(1, 2).ends(1, 2).takes(3).ends(3)
		stage(t, jobs...).takes(1).ends(1).takes(2, 3).ends(2, 3)
	}
}

// P8: what came to nothing, was killed or was cancelled is none that was found
// good: it is met by no other, and gets no number.
func TestWhatCameToNothingIsNotMet(t *testing.T) {
	jobs := [][]api.Step{raises(1), raises(1), append(raises(1), puts(2, 5)...), puts(2, 7)}
	s := stage(t, jobs...).takes(1, 2, 3, 4).ends(1).fails(2, 1).fails(3, 1).ends(4)
	wantMap(t, s.d, 1, 1, 2, 7)
	d := stage(t, jobs...).takes(1, 2, 3, 4).d
	allSteps := func(worker, ticket int) {
		for range len(jobs[ticket-1]) {
			wantPick(t, d, worker, api.Stepped, ticket)
		}
	}
	allSteps(0, 1)
	wantKill(t, d, 0, api.OK)
	allSteps(1, 2)
	wantCancel(t, d, 2, api.OK)
	wantEnded(t, d, 2, 3)
	wantRetried(t, d, 3, 4, 3)
	wantMap(t, d, 1, 1, 2, 5)
}

// P8: the partner is told by its ticket, not by its number, also when many have
// been found good and one attempt began ahead of them all.
func TestALongAttempt(t *testing.T) {
	const many = 200
	d := open(t, config(2, 4, 20))
	wantSubmit(t, d, touches(keyList{0, 1}, keyList{2, 3}), 1, api.OK)
	wantPick(t, d, 0, api.Took, 1)
	for ticket := 2; ticket <= many; ticket++ {
		steps := tells(ticket)
		switch ticket {
		case 90, 110:
			steps = puts(0, ticket)
		case 100:
			steps = puts(1, ticket)
		case 150:
			steps = touches(keyList{3}, keyList{4})
		}
		wantSubmit(t, d, steps, ticket, api.OK)
		wantPick(t, d, 1, api.Took, ticket)
		wantEnded(t, d, 1, ticket)
	}
	wantRetried(t, d, 0, 1, 90)
	wantAttempt(t, d, 0, 1, 4)
}
