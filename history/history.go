// Package history: the attempts that were found good, and whether one more can
// stand in an order with them (P8).
package history

import "pivot/keys"

// Attempt is what counts of an attempt that has ended.
type Attempt struct {
	Ticket    int // of its job; 1 or more
	Beginning int // how many had been found good when it began
	Read      keys.Set
	Wrote     keys.Set // none, unless it ended as Committed
}

// History is the attempts that were found good, by their numbers. The empty
// one is History{}.
type History struct {
	count int    // how many were found good, be they still known or not
	known []good // those that an attempt that runs may still meet
}

// good is an attempt that was found good.
type good struct {
	attempt Attempt
	number  int
	missed  int // see firstMissed
}

// Count tells how many were found good: the beginning of an attempt that
// begins now.
func (h *History) Count() int {
	return h.count
}

// Add gives the next number to an attempt that is found good. What it missed is
// noted now: those that it missed are known as long as it runs, and may be
// forgotten while it is not.
func (h *History) Add(t Attempt) {
	missed := h.firstMissed(t)
	h.count++
	h.known = append(h.known, good{attempt: t, number: h.count, missed: missed})
}

// Forget drops the attempts that no attempt of this beginning, or of a greater
// one, can meet.
func (h *History) Forget(beginning int) {
	if len(h.known) == 0 || h.known[0].number > beginning {
		return
	}
	rest := []good{}
	for _, u := range h.known {
		if u.number > beginning {
			rest = append(rest, u)
		}
	}
	h.known = rest
}
