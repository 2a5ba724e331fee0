package job_test

import (
	"math"
	"slices"
	"testing"

	"pivot/api"
	"pivot/job"
)

// pairs is a list of pairs: keys and values in turn.
func pairs(l ...int) []api.Pair {
	out := []api.Pair{}
	for i := 0; i+1 < len(l); i += 2 {
		out = append(out, api.Pair{Key: l[i], Value: l[i+1]})
	}
	return out
}

func told(l ...int) []int { return l }

func wantRun(t *testing.T, steps []api.Step, m []api.Pair, fuel, state int, told []int, behind []api.Pair) {
	t.Helper()
	o, after, e := job.Run(steps, m, fuel)
	if e != api.OK || o.State != state || !slices.Equal(o.Told, told) || o.Tries != 1 || !slices.Equal(after, behind) {
		t.Errorf("Run(%v, %v, %d) = %+v, %v, %d, want %d, %v, %v", steps, m, fuel, o, after, e, state, told, behind)
	}
}

// wantRefused: with an error everything else is 0 or empty (P1).
func wantRefused(t *testing.T, steps []api.Step, m []api.Pair, fuel int, want api.Errno) {
	t.Helper()
	o, after, e := job.Run(steps, m, fuel)
	if e != want || o.State != 0 || len(o.Told) != 0 || o.Tries != 0 || len(after) != 0 {
		t.Errorf("Run(%v, %v, %d) = %+v, %v, %d, want the error %d", steps, m, fuel, o, after, e, want)
	}
}

// P4: examples 2 to 5 of the document.
func TestRunExamples(t *testing.T) {
	five := []api.Step{step(api.Const, 0, 5), step(api.Put, 3, 0), step(api.Get, 1, 3), step(api.Emit, 1)}
	wantRun(t, five, nil, 10, api.Committed, told(5), pairs(3, 5))
	wantRun(t, five, nil, 4, api.Committed, told(5), pairs(3, 5))
	wantRun(t, five, nil, 3, api.Faulted, told(), pairs())
	look := []api.Step{step(api.Sum, 0, 0, 15), step(api.Count, 1, 0, 3), step(api.Emit, 0), step(api.Emit, 1), step(api.Del, 2), step(api.Undo)}
	wantRun(t, look, pairs(2, 7, 5, 9), 10, api.Undone, told(16, 1), pairs(2, 7, 5, 9))
	down := []api.Step{step(api.Const, 0, 3), step(api.Const, 1, 1), step(api.Sub, 0, 1), step(api.Emit, 0), step(api.Back, 0, 2)}
	wantRun(t, down, nil, 20, api.Committed, told(2, 1, 0), pairs())
	much := []api.Step{step(api.Const, 0, 999), step(api.Add, 0, 0), step(api.Add, 0, 0), step(api.Add, 0, 0), step(api.Add, 0, 0)}
	wantRun(t, much, nil, 20, api.Faulted, told(), pairs())
}

// P4: no steps are a job; the map behind its run is the map ahead of it.
func TestRunOfNoSteps(t *testing.T) {
	for _, m := range [][]api.Pair{nil, {}, pairs(0, 0), pairs(0, 9999, 15, 0), pairs(7, 1, 8, 2, 9, 3)} {
		for _, fuel := range []int{1, 2, 199, 200} {
			wantRun(t, nil, m, fuel, api.Committed, told(), m)
			wantRun(t, []api.Step{}, m, fuel, api.Committed, told(), m)
		}
	}
}

// P4: all registers are 0 in the beginning, and each is its own.
func TestRunRegisters(t *testing.T) {
	all := []api.Step{step(api.Emit, 0), step(api.Emit, 1), step(api.Emit, 2), step(api.Emit, 3)}
	wantRun(t, all, pairs(0, 1, 1, 2, 2, 3, 3, 4), 4, api.Committed, told(0, 0, 0, 0), pairs(0, 1, 1, 2, 2, 3, 3, 4))
	for register := 0; register < 4; register++ {
		want := told(0, 0, 0, 0)
		want[register] = 999
		steps := append([]api.Step{step(api.Const, register, 999)}, all...)
		wantRun(t, steps, nil, 5, api.Committed, want, nil)
	}
}

// P4: Get and Put of every key; a key without a value counts as 0.
func TestRunGetAndPut(t *testing.T) {
	for key := 0; key < 16; key++ {
		get := []api.Step{step(api.Const, 2, 6), step(api.Get, 2, key), step(api.Emit, 2)}
		wantRun(t, get, pairs(key, 9999), 9, api.Committed, told(9999), pairs(key, 9999))
		wantRun(t, get, nil, 9, api.Committed, told(0), nil)
		wantRun(t, get, pairs((key+1)%16, 5), 9, api.Committed, told(0), pairs((key+1)%16, 5))
		put := []api.Step{step(api.Const, 3, 8), step(api.Put, key, 3)}
		wantRun(t, put, nil, 2, api.Committed, told(), pairs(key, 8))
		wantRun(t, put, pairs(key, 7), 2, api.Committed, told(), pairs(key, 8))
		wantRun(t, []api.Step{step(api.Put, key, 1)}, nil, 1, api.Committed, told(), pairs(key, 0))
		wantRun(t, []api.Step{step(api.Del, key)}, pairs(key, 7), 1, api.Committed, told(), nil)
		wantRun(t, []api.Step{step(api.Del, key)}, nil, 1, api.Committed, told(), nil)
	}
}

// P4: the map behind the run is by rising keys, in whatever order they were put.
func TestRunPutsInAnyOrder(t *testing.T) {
	steps := []api.Step{step(api.Const, 0, 1), step(api.Put, 9, 0), step(api.Put, 15, 0), step(api.Put, 0, 0), step(api.Put, 4, 0), step(api.Del, 9)}
	wantRun(t, steps, pairs(3, 3, 9, 9, 11, 11), 6, api.Committed, told(), pairs(0, 1, 3, 3, 4, 1, 11, 11, 15, 1))
}

// P4: what a run puts and deletes it sees itself from then on, not before.
func TestRunSeesWhatItWrote(t *testing.T) {
	look := []api.Step{step(api.Get, 0, 5), step(api.Emit, 0), step(api.Sum, 0, 4, 6), step(api.Emit, 0), step(api.Count, 0, 4, 6), step(api.Emit, 0)}
	put := []api.Step{step(api.Const, 1, 50), step(api.Put, 5, 1)}
	m := pairs(4, 1, 5, 10, 7, 1000)
	putThenLook := slices.Concat(look, put, look)
	wantRun(t, putThenLook, m, 14, api.Committed, told(10, 11, 2, 50, 51, 2), pairs(4, 1, 5, 50, 7, 1000))
	delThenLook := slices.Concat(look, []api.Step{step(api.Del, 5)}, look)
	wantRun(t, delThenLook, m, 13, api.Committed, told(10, 11, 2, 0, 1, 1), pairs(4, 1, 7, 1000))
	both := slices.Concat([]api.Step{step(api.Del, 5)}, put, look, []api.Step{step(api.Del, 5)}, look)
	wantRun(t, both, m, 16, api.Committed, told(50, 51, 2, 0, 1, 1), pairs(4, 1, 7, 1000))
	putNought := slices.Concat([]api.Step{step(api.Put, 6, 3)}, look)
	wantRun(t, putNought, m, 7, api.Committed, told(10, 11, 3), pairs(4, 1, 5, 10, 6, 0, 7, 1000))
}

// P4: Sum and Count of every range; a value 0 counts as a value.
func TestRunRanges(t *testing.T) {
	m := pairs(0, 1, 2, 0, 3, 20, 9, 300, 15, 4000)
	for first := 0; first < 16; first++ {
		for last := first; last < 16; last++ {
			sum, count := 0, 0
			for _, p := range m {
				if first <= p.Key && p.Key <= last {
					sum += p.Value
					count++
				}
			}
			steps := []api.Step{step(api.Sum, 1, first, last), step(api.Emit, 1), step(api.Count, 1, first, last), step(api.Emit, 1)}
			wantRun(t, steps, m, 4, api.Committed, told(sum, count), m)
		}
	}
}

// P4: a sum of 9999 is a value, one of 10000 a fault.
func TestRunSumEdge(t *testing.T) {
	steps := []api.Step{step(api.Put, 4, 0), step(api.Emit, 0), step(api.Sum, 0, 1, 2), step(api.Emit, 0)}
	wantRun(t, steps, pairs(1, 9998, 2, 1, 3, 1), 9, api.Committed, told(0, 9999), pairs(1, 9998, 2, 1, 3, 1, 4, 0))
	wantRun(t, steps, pairs(1, 9999, 2, 1), 9, api.Faulted, told(0), pairs(1, 9999, 2, 1))
	full := []api.Pair{}
	for key := 0; key < 16; key++ {
		full = append(full, api.Pair{Key: key, Value: 9999})
	}
	wantRun(t, []api.Step{step(api.Sum, 0, 0, 15)}, full, 9, api.Faulted, told(), full)
	wantRun(t, []api.Step{step(api.Count, 0, 0, 15), step(api.Emit, 0)}, full, 9, api.Committed, told(16), full)
}

// P4: Add up to 9999, Sub down to 0; one more is a fault, which drops what was
// put and keeps what was told.
func TestRunAddAndSubEdges(t *testing.T) {
	add := []api.Step{step(api.Get, 0, 0), step(api.Get, 3, 1), step(api.Put, 5, 0), step(api.Emit, 3), step(api.Add, 0, 3), step(api.Emit, 0), step(api.Emit, 3)}
	wantRun(t, add, pairs(0, 9000, 1, 999), 9, api.Committed, told(999, 9999, 999), pairs(0, 9000, 1, 999, 5, 9000))
	wantRun(t, add, pairs(0, 9001, 1, 999), 9, api.Faulted, told(999), pairs(0, 9001, 1, 999))
	wantRun(t, add, pairs(0, 9999, 1, 9999), 9, api.Faulted, told(9999), pairs(0, 9999, 1, 9999))
	wantRun(t, add, pairs(0, 9999), 9, api.Committed, told(0, 9999, 0), pairs(0, 9999, 5, 9999))
	sub := []api.Step{step(api.Get, 0, 0), step(api.Get, 3, 1), step(api.Put, 5, 0), step(api.Emit, 3), step(api.Sub, 0, 3), step(api.Emit, 0), step(api.Emit, 3)}
	wantRun(t, sub, pairs(0, 9999, 1, 9998), 9, api.Committed, told(9998, 1, 9998), pairs(0, 9999, 1, 9998, 5, 9999))
	wantRun(t, sub, pairs(0, 7, 1, 7), 9, api.Committed, told(7, 0, 7), pairs(0, 7, 1, 7, 5, 7))
	wantRun(t, sub, pairs(0, 7, 1, 8), 9, api.Faulted, told(8), pairs(0, 7, 1, 8))
	wantRun(t, sub, pairs(1, 9999), 9, api.Faulted, told(9999), pairs(1, 9999))
	same := []api.Step{step(api.Const, 2, 9), step(api.Add, 2, 2), step(api.Emit, 2), step(api.Sub, 2, 2), step(api.Emit, 2)}
	wantRun(t, same, nil, 5, api.Committed, told(18, 0), nil)
}

// P4: Skip goes on behind the next B steps, if its register is 0; else at the
// next step.
func TestRunSkip(t *testing.T) {
	for b := 1; b <= 4; b++ {
		steps := []api.Step{step(api.Get, 1, 0), step(api.Skip, 1, b)}
		want := []int{}
		for i := 0; i < b; i++ {
			steps = append(steps, step(api.Emit, 1))
			want = append(want, 5)
		}
		steps = append(steps, step(api.Emit, 0))
		wantRun(t, steps, pairs(0, 5), 3+b, api.Committed, append(want, 0), pairs(0, 5))
		wantRun(t, steps, pairs(0, 5), 2+b, api.Faulted, want, pairs(0, 5))
		wantRun(t, steps, nil, 3, api.Committed, told(0), nil)
		wantRun(t, steps, nil, 2, api.Faulted, told(), nil)
	}
	toTheEnd := []api.Step{step(api.Skip, 3, 2), step(api.Undo), step(api.Undo)}
	wantRun(t, toTheEnd, nil, 1, api.Committed, told(), nil)
}

// P4: Back goes on at the step B earlier, if its register is not 0; else at
// the next step.
func TestRunBack(t *testing.T) {
	for b := 1; b <= 4; b++ {
		steps := []api.Step{step(api.Const, 1, 1), step(api.Const, 0, 2)}
		for i := 1; i < b; i++ {
			steps = append(steps, step(api.Emit, 1))
		}
		steps = append(steps, step(api.Sub, 0, 1), step(api.Back, 0, b), step(api.Emit, 0))
		want := []int{}
		for i := 0; i < 2*(b-1); i++ {
			want = append(want, 1)
		}
		want = append(want, 0)
		done := 2 + 2*(b+1) + 1
		wantRun(t, steps, nil, done, api.Committed, want, nil)
		wantRun(t, steps, nil, done-1, api.Faulted, want[:len(want)-1], nil)
	}
	toTheBeginning := []api.Step{step(api.Emit, 0), step(api.Get, 0, 0), step(api.Del, 0), step(api.Back, 0, 3)}
	wantRun(t, toTheBeginning, pairs(0, 8), 8, api.Committed, told(0, 8), nil)
}

// P4: Undo drops what was put and keeps what was told.
func TestRunUndo(t *testing.T) {
	steps := []api.Step{step(api.Const, 0, 3), step(api.Put, 1, 0), step(api.Del, 2), step(api.Emit, 0), step(api.Undo), step(api.Emit, 0)}
	wantRun(t, steps, pairs(2, 2), 200, api.Undone, told(3), pairs(2, 2))
	wantRun(t, steps, pairs(2, 2), 5, api.Undone, told(3), pairs(2, 2))
	wantRun(t, steps, pairs(2, 2), 4, api.Faulted, told(3), pairs(2, 2))
	wantRun(t, []api.Step{step(api.Undo)}, nil, 1, api.Undone, told(), nil)
}

// P4: a run that does as many steps as the fuel ends as Faulted, unless it
// then stands behind the last step.
func TestRunFuel(t *testing.T) {
	for n := 0; n <= 32; n++ {
		for fuel := 1; fuel <= 40; fuel++ {
			state, tells := api.Committed, n
			if fuel < n {
				state, tells = api.Faulted, fuel
			}
			wantRun(t, filled(n), pairs(1, 1), fuel, state, make([]int, tells), pairs(1, 1))
		}
	}
}

// P4: a job that goes round for ever uses up whatever fuel it has.
func TestRunForEver(t *testing.T) {
	steps := []api.Step{step(api.Const, 0, 1), step(api.Put, 0, 0), step(api.Emit, 0), step(api.Back, 0, 1)}
	for fuel := 1; fuel <= 200; fuel++ {
		tells := 0
		if fuel >= 3 {
			tells = (fuel - 1) / 2
		}
		want := make([]int, tells)
		for i := range want {
			want[i] = 1
		}
		wantRun(t, steps, pairs(3, 3), fuel, api.Faulted, want, pairs(3, 3))
	}
}

// noMaps are lists that are no map.
func noMaps() [][]api.Pair {
	l := [][]api.Pair{
		pairs(1, 1, 1, 1), pairs(0, 0, 0, 0), pairs(15, 1, 15, 2), pairs(2, 1, 1, 1), pairs(15, 1, 0, 1), pairs(0, 1, 2, 1, 1, 1), pairs(1, 1, 2, 2, 2, 2), pairs(1, 1, 3, 3, 1, 1),
		pairs(14, 1, 15, 1, 16, 1), pairs(-1, 1, 0, 1), pairs(0, 0, 1, 0, 2, -1), pairs(0, 10000, 1, 0),
		make([]api.Pair, 17), make([]api.Pair, 100000),
	}
	for _, n := range []int{math.MinInt, math.MinInt32, -1, 16, 17, 9999, 1 << 32, math.MaxInt} {
		l = append(l, pairs(n, 0))
	}
	for _, n := range []int{math.MinInt, math.MinInt32, -9999, -1, 10000, 10001, 1 << 32, math.MaxInt} {
		l = append(l, pairs(0, n), pairs(15, n))
	}
	return l
}

// noFuels are numbers that are no fuel.
func noFuels() []int {
	return []int{math.MinInt, math.MinInt32, -200, -1, 0, 201, 202, 1<<32 + 1, 1 << 62, math.MaxInt}
}

// P4, P1: each of the errors, and the first named where several apply.
func TestRunErrors(t *testing.T) {
	noJobs := [][]api.Step{filled(33), {step(0)}, {step(13)}, {step(api.Emit, 4)}, {step(api.Undo), step(api.Skip, 0, 1)}, {step(api.Back, 0, 1)}, {step(api.Undo), step(api.Get, 0, 16)}}
	for _, steps := range noJobs {
		wantRefused(t, steps, nil, 10, api.ErrJob)
		wantRefused(t, steps, pairs(16, 0), 10, api.ErrJob)
		wantRefused(t, steps, nil, 0, api.ErrJob)
		wantRefused(t, steps, pairs(0, -1), 201, api.ErrJob)
	}
	for _, steps := range [][]api.Step{nil, filled(32), {step(api.Emit, 0), step(api.Undo)}} {
		for _, m := range noMaps() {
			wantRefused(t, steps, m, 10, api.ErrMap)
			wantRefused(t, steps, m, 0, api.ErrMap)
			wantRefused(t, steps, m, 201, api.ErrMap)
		}
		for _, fuel := range noFuels() {
			wantRefused(t, steps, nil, fuel, api.ErrFuel)
			wantRefused(t, steps, pairs(0, 0, 15, 9999), fuel, api.ErrFuel)
		}
	}
}
