package history

import "pivot/keys"

// Partner is the ticket of the attempt with which t can stand in no order; 0,
// if there is none. No attempt that is later than t's beginning may have been
// forgotten.
func (h *History) Partner(t Attempt) int {
	partner := h.clash(t)
	if partner == 0 {
		partner = h.pivot(t)
	}
	if partner == 0 {
		partner = h.outer(t)
	}
	return partner
}

// clash is the partner of a CLASH: the last attempt that wrote what t wrote.
func (h *History) clash(t Attempt) int {
	partner := 0
	for _, u := range h.known {
		if u.isLater(t) && keys.Meet(u.attempt.Wrote, t.Wrote) {
			partner = u.attempt.Ticket
		}
	}
	return partner
}

// pivot is the partner of a PIVOT: the first attempt that wrote what t read, if
// it or one behind it read what t wrote. If any V has such a U, the first one
// has it too.
func (h *History) pivot(t Attempt) int {
	partner := 0
	for _, other := range h.known {
		if !other.isLater(t) {
			continue
		}
		if partner == 0 && keys.Meet(other.attempt.Wrote, t.Read) {
			partner = other.attempt.Ticket
		}
		if partner != 0 && keys.Meet(other.attempt.Read, t.Wrote) {
			return partner
		}
	}
	return 0
}

// outer is the partner of an OUTER: the first attempt that wrote what t read,
// and missed another one that counts.
func (h *History) outer(t Attempt) int {
	for _, u := range h.known {
		if u.isLater(t) && keys.Meet(u.attempt.Wrote, t.Read) && u.missedFor(t) {
			return u.attempt.Ticket
		}
	}
	return 0
}

// isLater tells whether u is later than t's beginning.
func (u *good) isLater(t Attempt) bool {
	return u.number > t.Beginning
}

// missedFor tells whether u missed an attempt that counts in an OUTER of t. If
// one of them does, the one of the least number does.
func (u *good) missedFor(t Attempt) bool {
	if u.missed == 0 {
		return false
	}
	return !t.Wrote.IsEmpty() || u.missed <= t.Beginning
}

// firstMissed is the least number of an attempt that t missed: it is later than
// t's beginning and wrote what t read, so t saw the key as it was before. 0, if
// there is none.
func (h *History) firstMissed(t Attempt) int {
	for _, v := range h.known {
		if v.isLater(t) && keys.Meet(v.attempt.Wrote, t.Read) {
			return v.number
		}
	}
	return 0
}
