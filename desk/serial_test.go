package desk_test

import (
	"slices"
	"testing"

	"pivot/api"
	"pivot/desk"
	"pivot/job"
)

// mustPrecede tells whether the good attempt a must stand ahead of b in every
// order that has the same effects: b saw or overwrote what a wrote, or a did not
// see what b wrote.
func mustPrecede(m *model, a, b int) bool {
	first, second := m.good[a], m.good[b]
	switch {
	case a < b && first.wrote&second.wrote != 0:
		return true
	case a < second.beginning && first.wrote&second.read != 0:
		return true
	}
	return b >= first.beginning && first.read&second.wrote != 0
}

// serialOrder is an order of the good attempts, by their tickets; shorter, if
// there is none.
func serialOrder(m *model) []int {
	out := []int{}
	left := make([]int, len(m.good))
	for i := range left {
		left[i] = i
	}
	for {
		place := slices.IndexFunc(left, func(a int) bool {
			return !slices.ContainsFunc(left, func(b int) bool { return a != b && mustPrecede(m, b, a) })
		})
		if place < 0 {
			return out
		}
		out = append(out, m.good[left[place]].ticket)
		left = slices.Delete(left, place, place+1)
	}
}

// P13: there is an order in which the jobs that ended, run one after the other,
// have the same outcomes and make the same map.
func wantSerial(t *testing.T, p *pair) {
	t.Helper()
	order := serialOrder(p.m)
	if len(order) != len(p.m.good) {
		t.Fatalf("%d of %d jobs stand in an order", len(order), len(p.m.good))
	}
	pairs := []api.Pair{}
	for _, ticket := range order {
		want, behind, _ := job.Run(p.m.job(ticket).steps, pairs, p.m.config.Fuel)
		got, _ := p.d.Poll(ticket)
		if got.State != want.State || !slices.Equal(got.Told, want.Told) {
			t.Fatalf("job %d, in the order %v: %+v, want %+v", ticket, order, got, want)
		}
		pairs = behind
	}
	if got := p.d.Map(); !slices.Equal(got, pairs) {
		t.Fatalf("the map is %v, want %v", got, pairs)
	}
}

// hasOrder tells whether there is an order of the jobs that are left, run over
// the pairs, in which each has its outcome and the map in the end is the desk's.
// It asks nothing but the calls of job and desk.
func hasOrder(d *desk.Desk, jobs [][]api.Step, left []int, pairs []api.Pair) bool {
	if len(left) == 0 {
		return slices.Equal(pairs, d.Map())
	}
	for i, ticket := range left {
		got, _ := d.Poll(ticket)
		want, behind, _ := job.Run(jobs[ticket-1], pairs, 20)
		same := got.State == want.State && slices.Equal(got.Told, want.Told)
		if same && hasOrder(d, jobs, slices.Delete(slices.Clone(left), i, i+1), behind) {
			return true
		}
	}
	return false
}

// beginsAndEnds are all lines of begins and ends of the jobs 1 to n, begun in
// this order: a ticket for a begin, the same below 0 for an end.
func beginsAndEnds(n int) [][]int {
	out := [][]int{}
	var grow func(line []int, begun int, running []int)
	grow = func(line []int, begun int, running []int) {
		if len(line) == 2*n {
			out = append(out, slices.Clone(line))
			return
		}
		if begun < n {
			grow(append(slices.Clone(line), begun+1), begun+1, append(slices.Clone(running), begun+1))
		}
		for i, ticket := range running {
			grow(append(slices.Clone(line), -ticket), begun, slices.Delete(slices.Clone(running), i, i+1))
		}
	}
	grow(nil, 0, nil)
	return out
}

// smallJobs read and write three keys in many ways, and tell what they read.
func smallJobs() [][]api.Step {
	emit, undo := step(api.Emit, 0), step(api.Undo)
	one, add := step(api.Const, 1, 1), step(api.Add, 0, 1)
	return [][]api.Step{
		raises(0),
		{step(api.Get, 0, 0), one, add, step(api.Put, 1, 0), emit},
		{step(api.Get, 0, 1), one, add, step(api.Put, 2, 0), emit},
		{step(api.Sum, 0, 0, 1), one, add, step(api.Put, 2, 0)},
		{step(api.Get, 0, 2), one, add, step(api.Put, 0, 0)},
		{step(api.Count, 0, 0, 2), emit, step(api.Del, 1)},
		{step(api.Count, 0, 1, 2), emit},
		{step(api.Get, 0, 0), emit, step(api.Get, 0, 2), emit},
		{step(api.Get, 0, 1), one, add, step(api.Put, 0, 0), emit, undo},
		{one, step(api.Put, 0, 1), step(api.Put, 1, 1)},
	}
}

// P13: three jobs of all kinds, begun and ended in every order.
func TestEveryOrderOfThreeJobs(t *testing.T) {
	small := smallJobs()
	lines := beginsAndEnds(3)
	notGood := 0
	for n := range len(small) * len(small) * len(small) {
		jobs := [][]api.Step{small[n%len(small)], small[n/len(small)%len(small)], small[n/len(small)/len(small)]}
		for _, line := range lines {
			d := open(t, api.Config{Workers: 3, Queue: 3, Fuel: 20, Patience: 5})
			for i, steps := range jobs {
				wantSubmit(t, d, steps, i+1, api.OK)
			}
			ended := []int{}
			for _, ticket := range line {
				if ticket > 0 {
					wantPick(t, d, ticket-1, api.Took, ticket)
					continue
				}
				if note := finish(t, d, -ticket-1, -ticket); note.Kind == api.Ended {
					ended = append(ended, -ticket)
				} else {
					notGood++
				}
			}
			if !hasOrder(d, jobs, ended, nil) {
				t.Fatalf("%v, begun and ended as %v: no order of %v", jobs, line, ended)
			}
		}
	}
	if notGood == 0 {
		t.Errorf("no attempt came to nothing")
	}
}
