package job_test

import (
	"maps"
	"slices"
	"testing"

	"pivot/api"
	"pivot/job"
)

// The model is a second reading of the document's table, with means that the
// program does not use; the program must answer as it does.

// numbers is a line of numbers that look unordered and are the same at every
// test run.
type numbers struct{ state uint64 }

func (n *numbers) below(limit int) int {
	n.state = n.state*6364136223846793005 + 1442695040888963407
	return int((n.state >> 33) % uint64(limit))
}

func (n *numbers) between(least, greatest int) int {
	return least + n.below(greatest-least+1)
}

// anyStep is a step that may stand at place i of a job of size steps. Keys and
// registers are drawn from few, so that steps meet.
func (n *numbers) anyStep(i, size, keys, regs int) api.Step {
	for {
		op := n.between(api.Const, api.Undo)
		a, b := n.below(regs), n.below(regs)
		first := n.below(keys)
		switch op {
		case api.Const:
			return step(op, a, []int{0, 1, 2, 3, 500, 999}[n.below(6)])
		case api.Get:
			return step(op, a, first)
		case api.Put:
			return step(op, first, b)
		case api.Del:
			return step(op, first)
		case api.Sum, api.Count:
			return step(op, a, first, n.between(first, keys-1))
		case api.Add, api.Sub:
			return step(op, a, b)
		case api.Skip:
			if i < size-1 {
				return step(op, a, n.between(1, size-1-i))
			}
		case api.Back:
			if i > 0 {
				return step(op, a, n.between(1, i))
			}
		case api.Emit:
			return step(op, a)
		case api.Undo:
			if n.below(8) == 0 {
				return step(op)
			}
		}
	}
}

func (n *numbers) anyJob(size int) []api.Step {
	keys, regs := n.between(1, 16), n.between(1, 4)
	l := make([]api.Step, size)
	for i := range l {
		l[i] = n.anyStep(i, size, keys, regs)
	}
	return l
}

func (n *numbers) anyMap() []api.Pair {
	l := []api.Pair{}
	for key := 0; key < 16; key++ {
		if n.below(2) == 0 {
			l = append(l, api.Pair{Key: key, Value: []int{0, 1, 2, 40, 999, 3000, 9998, 9999}[n.below(8)]})
		}
	}
	return l
}

type model struct {
	regs map[int]int
	has  map[int]int
	told []int
}

// step tells where the model goes on, and how it ends (0: it does not).
func (m *model) step(s api.Step, at int) (int, int) {
	sum, count := 0, 0
	for key, value := range m.has {
		if s.B <= key && key <= s.C {
			sum += value
			count++
		}
	}
	next, result, sets := at+1, 0, true
	switch s.Op {
	case api.Const:
		result = s.B
	case api.Get:
		result = m.has[s.B]
	case api.Sum:
		result = sum
	case api.Count:
		result = count
	case api.Add:
		result = m.regs[s.A] + m.regs[s.B]
	case api.Sub:
		result = m.regs[s.A] - m.regs[s.B]
	default:
		sets = false
	}
	switch {
	case sets && (result < 0 || result > 9999):
		return next, api.Faulted
	case sets:
		m.regs[s.A] = result
	case s.Op == api.Put:
		m.has[s.A] = m.regs[s.B]
	case s.Op == api.Del:
		delete(m.has, s.A)
	case s.Op == api.Skip && m.regs[s.A] == 0:
		next = at + 1 + s.B
	case s.Op == api.Back && m.regs[s.A] != 0:
		next = at - s.B
	case s.Op == api.Emit:
		m.told = append(m.told, m.regs[s.A])
	case s.Op == api.Undo:
		return next, api.Undone
	}
	return next, 0
}

// modelRun is what Run must answer.
func modelRun(steps []api.Step, start []api.Pair, fuel int) (int, []int, []api.Pair) {
	m := model{regs: map[int]int{}, has: map[int]int{}}
	for _, p := range start {
		m.has[p.Key] = p.Value
	}
	at, end := 0, 0
	for done := 0; end == 0; done++ {
		switch {
		case at == len(steps):
			behind := []api.Pair{}
			for _, key := range slices.Sorted(maps.Keys(m.has)) {
				behind = append(behind, api.Pair{Key: key, Value: m.has[key]})
			}
			return api.Committed, m.told, behind
		case done == fuel:
			end = api.Faulted
		default:
			at, end = m.step(steps[at], at)
		}
	}
	return end, m.told, start
}

// P4: many jobs over many maps, with many fuels, against the model.
func TestRunAgainstTheModel(t *testing.T) {
	n := &numbers{state: 4}
	seen := map[int]int{}
	for i := 0; i < 60000; i++ {
		steps := n.anyJob(n.between(0, 32))
		m := n.anyMap()
		fuel := []int{n.between(1, 40), n.between(1, 200)}[n.below(2)]
		if job.Check(steps) != api.OK {
			t.Fatalf("the test made steps that are no job: %v", steps)
		}
		state, told, behind := modelRun(steps, m, fuel)
		wantRun(t, steps, m, fuel, state, told, behind)
		seen[state]++
		if t.Failed() {
			return
		}
	}
	// Were it otherwise, the loop would not have tried what it should.
	for _, state := range []int{api.Committed, api.Undone, api.Faulted} {
		if seen[state] < 3000 {
			t.Errorf("only %d of the runs tried ended as %d", seen[state], state)
		}
	}
}
