package history_test

import (
	"testing"

	"pivot/history"
)

// The model is a second reading of P8, word for word: it forgets nothing, and
// goes through all pairs of a U and a V.
type model struct {
	good []past // by their numbers, from 1
}

type past struct {
	ticket, beginning int
	read, wrote       int // a bit a key
}

// partner is the partner, and which case it is.
func (m *model) partner(t past) (int, string) {
	laterUs := func(test func(u int) bool) (least, greatest int) {
		for u := t.beginning + 1; u <= len(m.good); u++ {
			if test(u) {
				if least == 0 {
					least = u
				}
				greatest = u
			}
		}
		return least, greatest
	}
	at := func(number int) past { return m.good[number-1] }
	if _, u := laterUs(func(u int) bool { return at(u).wrote&t.wrote != 0 }); u != 0 {
		return at(u).ticket, "CLASH"
	}
	if v, _ := laterUs(func(v int) bool {
		u, _ := laterUs(func(u int) bool { return at(u).read&t.wrote != 0 && v <= u })
		return at(v).wrote&t.read != 0 && u != 0
	}); v != 0 {
		return at(v).ticket, "PIVOT"
	}
	outer := func(limit int) int {
		u, _ := laterUs(func(u int) bool {
			for v := 1; v <= len(m.good); v++ {
				if v > at(u).beginning && at(v).wrote&at(u).read != 0 && v < u && v <= limit {
					return at(u).wrote&t.read != 0
				}
			}
			return false
		})
		return u
	}
	if t.wrote != 0 {
		if u := outer(len(m.good)); u != 0 {
			return at(u).ticket, "OUTER"
		}
		return 0, "good"
	}
	if u := outer(t.beginning); u != 0 {
		return at(u).ticket, "OUTER, nothing written"
	}
	if outer(len(m.good)) != 0 {
		return 0, "good, as nothing was written"
	}
	return 0, "good"
}

// numbers is a line of numbers that look unordered and are the same at every
// test run.
type numbers struct{ state uint64 }

func (n *numbers) below(limit int) int {
	n.state = n.state*6364136223846793005 + 1442695040888963407
	return int((n.state >> 33) % uint64(limit))
}

// some is none to three of the keys, as a list and as bits.
func (n *numbers) some(keys int) (list, int) {
	all, bits := list{}, 0
	for range n.below(4) {
		key := n.below(keys)
		all = append(all, key)
		bits |= 1 << key
	}
	return all, bits
}

// P8: attempts of a few workers, as they may come: each begins when the one
// before it at the worker has ended, and what none can meet is forgotten.
func TestManyAttemptsAgainstTheModel(t *testing.T) {
	seen := map[string]int{}
	for round := range 5000 {
		r := &numbers{state: uint64(round)}
		keys := 3 + r.below(14)
		h, m := &history.History{}, &model{}
		beginnings := make([]int, 1+r.below(6))
		for ticket := 1; ticket <= 60; ticket++ {
			w := r.below(len(beginnings))
			read, readBits := r.some(keys)
			wrote, wroteBits := r.some(keys)
			p := past{ticket, beginnings[w], readBits, wroteBits}
			a := attempt(ticket, beginnings[w], read, wrote)
			want, what := m.partner(p)
			wantPartner(t, what, h, a, want)
			seen[what]++
			if want == 0 {
				h.Add(a)
				m.good = append(m.good, p)
			}
			beginnings[w] = h.Count()
			if h.Count() != len(m.good) {
				t.Fatalf("the count is %d, want %d", h.Count(), len(m.good))
			}
			least := beginnings[0]
			for _, beginning := range beginnings {
				least = min(least, beginning)
			}
			h.Forget(least)
		}
	}
	// Were it otherwise, the loop would not have tried what it should.
	for _, what := range []string{"CLASH", "PIVOT", "OUTER", "OUTER, nothing written", "good, as nothing was written", "good"} {
		if seen[what] < 300 {
			t.Errorf("%s was seen %d times only", what, seen[what])
		}
	}
}
