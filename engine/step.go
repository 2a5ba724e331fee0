package engine

import "pivot/api"

// do does the step; the run stands behind it already.
func (r *Run) do(s api.Step) {
	switch s.Op {
	case api.Put:
		value := r.register(s.B)
		r.view.Put(s.A, value)
		r.wrote.Add(s.A)
	case api.Del:
		r.view.Delete(s.A)
		r.wrote.Add(s.A)
	case api.Skip:
		if r.register(s.A) == 0 {
			r.at += s.B
		}
	case api.Back:
		if r.register(s.A) != 0 {
			r.at -= s.B + 1
		}
	case api.Emit:
		value := r.register(s.A)
		r.told = append(r.told, value)
	case api.Undo:
		r.state = api.Undone
	default:
		number := r.number(s)
		r.become(s.A, number)
	}
}

// number is what register A becomes at a step that sets it, be it a value or
// not. The keys for which the step asks are noted, also if it is a fault.
func (r *Run) number(s api.Step) int {
	a := r.register(s.A)
	switch s.Op {
	case api.Const:
		return s.B
	case api.Get:
		r.ask(s.B, s.B)
		return r.view.Value(s.B)
	case api.Sum:
		r.ask(s.B, s.C)
		return r.view.Sum(s.B, s.C)
	case api.Count:
		r.ask(s.B, s.C)
		return r.view.Count(s.B, s.C)
	case api.Add:
		return a + r.register(s.B)
	case api.Sub:
		return a - r.register(s.B)
	}
	return a
}

// ask notes that the run reads the keys from first to last, but for those that
// it put or deleted itself: what it sees there is its own.
func (r *Run) ask(first, last int) {
	for key := 0; key < api.Keys; key++ {
		if first <= key && key <= last && !r.wrote.Has(key) {
			r.read.Add(key)
		}
	}
}

// become sets a register; a number that is no value is a fault.
func (r *Run) become(register, number int) {
	if number < 0 || number > api.MaxValue {
		r.state = api.Faulted
		return
	}
	if register >= 0 && register < api.Regs {
		r.registers[register] = number
	}
}

// register is the value of a register.
func (r *Run) register(register int) int {
	if register < 0 || register >= api.Regs {
		return 0
	}
	return r.registers[register]
}
