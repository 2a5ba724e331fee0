package desk_test

import (
	"pivot/api"
)

// values is what each key has; -1, if it has none.
type values [16]int

func noValues() values {
	v := values{}
	for key := range v {
		v[key] = -1
	}
	return v
}

func (v values) pairs() []api.Pair {
	out := []api.Pair{}
	for key, value := range v {
		if value >= 0 {
			out = append(out, api.Pair{Key: key, Value: value})
		}
	}
	return out
}

// trace is what a run comes to, with the keys that it read and wrote: a bit a
// key. It is a second reading of the table of operations and of P8.
type trace struct {
	state       int
	told        []int
	stepped     int // how many steps it does before the pick that ends it
	read, wrote int
	sees        values
	regs        [4]int
}

// traceOf is the trace of the job's run.
func traceOf(steps []api.Step, start values, fuel int) trace {
	r := trace{state: api.Running, sees: start}
	at := 0
	for {
		switch {
		case at == len(steps):
			r.state = api.Committed
		case r.stepped == fuel:
			r.state = api.Faulted
		default:
			at = r.step(steps[at], at)
		}
		if r.state != api.Running {
			break
		}
		r.stepped++
	}
	if r.state != api.Committed {
		r.wrote = 0
	}
	return r
}

// step does the step and tells where the run goes on.
func (r *trace) step(s api.Step, at int) int {
	switch s.Op {
	case api.Put, api.Del:
		r.wrote |= 1 << s.A
		r.sees[s.A] = -1
		if s.Op == api.Put {
			r.sees[s.A] = r.regs[s.B]
		}
	case api.Skip:
		if r.regs[s.A] == 0 {
			return at + 1 + s.B
		}
	case api.Back:
		if r.regs[s.A] != 0 {
			return at - s.B
		}
	case api.Emit:
		r.told = append(r.told, r.regs[s.A])
	case api.Undo:
		r.state = api.Undone
	default:
		number := r.number(s)
		if number < 0 || number > 9999 {
			r.state = api.Faulted
			break
		}
		r.regs[s.A] = number
	}
	return at + 1
}

// number is what the step makes of its register.
func (r *trace) number(s api.Step) int {
	switch s.Op {
	case api.Const:
		return s.B
	case api.Add:
		return r.regs[s.A] + r.regs[s.B]
	case api.Sub:
		return r.regs[s.A] - r.regs[s.B]
	}
	last := s.C
	if s.Op == api.Get {
		last = s.B
	}
	sum, count := 0, 0
	for key := s.B; key <= last; key++ {
		if r.wrote&(1<<key) == 0 {
			r.read |= 1 << key
		}
		if r.sees[key] >= 0 {
			sum += r.sees[key]
			count++
		}
	}
	if s.Op == api.Count {
		return count
	}
	return sum
}
