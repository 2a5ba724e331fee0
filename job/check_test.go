package job_test

import (
	"math"
	"testing"

	"pivot/api"
	"pivot/job"
)

// step is written as in the document: without the noughts at the end.
func step(op int, operands ...int) api.Step {
	all := [3]int{}
	copy(all[:], operands)
	return api.Step{Op: op, A: all[0], B: all[1], C: all[2]}
}

// filled is n steps that are a job of their own.
func filled(n int) []api.Step {
	l := make([]api.Step, n)
	for i := range l {
		l[i] = step(api.Emit, 0)
	}
	return l
}

// at is a job of n steps with s at place i.
func at(s api.Step, i, n int) []api.Step {
	l := filled(n)
	l[i] = s
	return l
}

func wantCheck(t *testing.T, steps []api.Step, want api.Errno) {
	t.Helper()
	if got := job.Check(steps); got != want {
		t.Errorf("Check(%v) = %d, want %d", steps, got, want)
	}
}

// P3: example 1 of the document.
func TestCheckExample(t *testing.T) {
	wantCheck(t, []api.Step{step(api.Const, 0, 5), step(api.Put, 3, 0)}, api.OK)
	wantCheck(t, []api.Step{step(api.Const, 4, 5)}, api.ErrJob)
	wantCheck(t, []api.Step{step(api.Const, 0, 1000)}, api.ErrJob)
	wantCheck(t, []api.Step{step(api.Sum, 0, 5, 4)}, api.ErrJob)
	wantCheck(t, []api.Step{step(api.Emit, 0, 1)}, api.ErrJob)
	wantCheck(t, []api.Step{step(api.Back, 0, 1), step(api.Undo)}, api.ErrJob)
	wantCheck(t, []api.Step{step(api.Undo), step(api.Skip, 0, 1)}, api.ErrJob)
	wantCheck(t, nil, api.OK)
	wantCheck(t, []api.Step{}, api.OK)
}

// P3: the jobs of the other examples.
func TestCheckJobsOfTheExamples(t *testing.T) {
	for _, l := range [][]api.Step{
		{step(api.Const, 0, 5), step(api.Put, 3, 0), step(api.Get, 1, 3), step(api.Emit, 1)},
		{step(api.Sum, 0, 0, 15), step(api.Count, 1, 0, 3), step(api.Emit, 0), step(api.Emit, 1), step(api.Del, 2), step(api.Undo)},
		{step(api.Const, 0, 3), step(api.Const, 1, 1), step(api.Sub, 0, 1), step(api.Emit, 0), step(api.Back, 0, 2)},
		{step(api.Const, 0, 999), step(api.Add, 0, 0), step(api.Add, 0, 0), step(api.Add, 0, 0), step(api.Add, 0, 0)},
		{step(api.Get, 0, 1), step(api.Const, 1, 1), step(api.Add, 0, 1), step(api.Put, 1, 0)},
	} {
		wantCheck(t, l, api.OK)
	}
}

// P3: none to 32 steps.
func TestCheckLength(t *testing.T) {
	for n := 0; n <= 32; n++ {
		wantCheck(t, filled(n), api.OK)
	}
	for _, n := range []int{33, 34, 64, 1000, 100000} {
		if got := job.Check(filled(n)); got != api.ErrJob {
			t.Errorf("Check of %d steps = %d, want ErrJob", n, got)
		}
	}
}

// span is what an operand may be.
type span struct{ least, greatest int }

var (
	none     = span{0, 0}
	register = span{0, 3}
	key      = span{0, 15}
	number   = span{0, 999}
)

// shape is a line of the document's table, for a step that has 2 others ahead
// of it and 3 behind it.
type shape struct {
	op      int
	a, b, c span
	rising  bool // B at most C
}

var shapes = []shape{
	{1, register, number, none, false},
	{2, register, key, none, false},
	{3, key, register, none, false},
	{4, key, none, none, false},
	{5, register, key, key, true},
	{6, register, key, key, true},
	{7, register, register, none, false},
	{8, register, register, none, false},
	{9, register, span{1, 3}, none, false},
	{10, register, span{1, 2}, none, false},
	{11, register, none, none, false},
	{12, none, none, none, false},
}

func (p span) has(n int) bool { return p.least <= n && n <= p.greatest }

func (p shape) has(s api.Step) bool {
	return p.a.has(s.A) && p.b.has(s.B) && p.c.has(s.C) && (!p.rising || s.B <= s.C)
}

// isInTable tells whether the table has s, 2 steps ahead of it and 3 behind.
func isInTable(s api.Step) bool {
	for _, p := range shapes {
		if p.op == s.Op {
			return p.has(s)
		}
	}
	return false
}

// edges are the operands worth trying: all small ones, and those at the
// bounds of the document and of the machine's numbers.
func edges() []int {
	l := []int{math.MinInt, math.MinInt + 1, math.MinInt32, -10000, -1000}
	for n := -4; n <= 34; n++ {
		l = append(l, n)
	}
	return append(l, 998, 999, 1000, 1001, 9999, 10000, math.MaxInt32, 1<<32, 1<<32+1, math.MaxInt-1, math.MaxInt)
}

// P3, P1: every operation with every operand of edges, against the table.
func TestCheckAgainstTheTable(t *testing.T) {
	operands := edges()
	jobs := 0
	for op := -1; op <= 14; op++ {
		for _, a := range operands {
			for _, b := range operands {
				for _, c := range operands {
					s := api.Step{Op: op, A: a, B: b, C: c}
					want := api.ErrJob
					if isInTable(s) {
						want = api.OK
						jobs++
					}
					if got := job.Check(at(s, 2, 6)); got != want {
						t.Fatalf("Check with %v as step 2 of 6 = %d, want %d", s, got, want)
					}
				}
			}
		}
	}
	// Were it otherwise, the loop would not have tried what it should.
	if wantJobs := 4*(35+2) + 4*16 + 16*4 + 16 + 2*4*136 + 2*16 + 4*3 + 4*2 + 4 + 1; jobs != wantJobs {
		t.Errorf("%d of the steps tried are in the table, want %d", jobs, wantJobs)
	}
}

// P3: every number that a Const may have.
func TestCheckConstNumbers(t *testing.T) {
	for n := -1; n <= 1000; n++ {
		want := api.OK
		if n < 0 || n > 999 {
			want = api.ErrJob
		}
		wantCheck(t, []api.Step{step(api.Const, 0, n)}, want)
	}
}

// P3: no operation but 1 to 12.
func TestCheckUnknownOperations(t *testing.T) {
	for _, op := range []int{math.MinInt, -12, -1, 0, 13, 14, 99, 1<<32 + 12, 1 << 62, math.MaxInt} {
		wantCheck(t, []api.Step{{Op: op}}, api.ErrJob)
	}
}

// P3: Skip at every place of jobs of every length: up to the number of steps
// behind it, so that it may at most go on behind the last one.
func TestCheckSkipReach(t *testing.T) {
	for n := 1; n <= 32; n++ {
		for i := 0; i < n; i++ {
			for b := -1; b <= 33; b++ {
				want := api.ErrJob
				if b >= 1 && i+b <= n-1 {
					want = api.OK
				}
				wantCheck(t, at(step(api.Skip, 3, b), i, n), want)
			}
		}
	}
}

// P3: Back at every place of jobs of every length: at most to step 0.
func TestCheckBackReach(t *testing.T) {
	for n := 1; n <= 32; n++ {
		for i := 0; i < n; i++ {
			for b := -1; b <= 33; b++ {
				want := api.ErrJob
				if b >= 1 && i-b >= 0 {
					want = api.OK
				}
				wantCheck(t, at(step(api.Back, 3, b), i, n), want)
			}
		}
	}
}

// P3: one wrong step spoils the job, wherever it stands.
func TestCheckEveryPlace(t *testing.T) {
	for n := 1; n <= 32; n++ {
		for i := 0; i < n; i++ {
			wantCheck(t, at(step(api.Put, 15, 3), i, n), api.OK)
			wantCheck(t, at(step(api.Put, 16, 3), i, n), api.ErrJob)
			wantCheck(t, at(step(api.Undo, 0, 0, 1), i, n), api.ErrJob)
		}
	}
}

// samples are jobs and lists that are none.
func samples() [][]api.Step {
	return [][]api.Step{
		{},
		filled(5),
		filled(32),
		filled(33),
		{step(api.Skip, 0, 1), step(api.Undo)},
		{step(api.Undo), step(api.Skip, 0, 1)},
		{step(api.Undo), step(api.Back, 0, 1)},
		{step(api.Const, 0, -5), step(99, 7, 8, 9)},
	}
}

// P2: neither the list nor its spare room is written into, and what stands in
// the spare room counts for nothing: a Skip must not reach into it.
func TestCheckLeavesTheListAlone(t *testing.T) {
	for _, sample := range samples() {
		want := job.Check(sample)
		for _, spare := range []api.Step{step(api.Undo), step(99, -1, 1000, 7)} {
			whole := make([]api.Step, 0, len(sample)+3)
			whole = append(whole, sample...)
			whole = append(whole, spare, spare, spare)
			before := append([]api.Step(nil), whole...)
			wantCheck(t, whole[:len(sample)], want)
			for i := range whole {
				if whole[i] != before[i] {
					t.Errorf("Check(%v) changed the step at %d to %v", sample, i, whole[i])
				}
			}
		}
	}
}

// P2: the answer hangs on the argument alone, not on earlier calls.
func TestCheckForgetsEarlierCalls(t *testing.T) {
	want := []api.Errno{api.OK, api.OK, api.OK, api.ErrJob, api.OK, api.ErrJob, api.OK, api.ErrJob}
	for _, earlier := range samples() {
		for i, l := range samples() {
			job.Check(earlier)
			wantCheck(t, l, want[i])
		}
	}
}

// P2: the list is not kept: what its owner writes into it later counts only
// for the next call.
func TestCheckKeepsNoList(t *testing.T) {
	l := filled(3)
	wantCheck(t, l, api.OK)
	l[1] = step(api.Emit, 4)
	wantCheck(t, l, api.ErrJob)
	wantCheck(t, filled(3), api.OK)
	l[1] = step(api.Emit, 3)
	wantCheck(t, l, api.OK)
}
