package history_test

import (
	"testing"

	"pivot/history"
	"pivot/keys"
)

type list []int

// set is the set of the keys.
func set(all list) keys.Set {
	s := keys.Set{}
	for _, key := range all {
		s.Add(key)
	}
	return s
}

// attempt is an attempt of this beginning that read and wrote these keys.
func attempt(ticket, beginning int, read, wrote list) history.Attempt {
	return history.Attempt{Ticket: ticket, Beginning: beginning, Read: set(read), Wrote: set(wrote)}
}

// known is a history of the attempts, found good in this order. Their tickets
// are 11, 12, .., so that a ticket is not taken for a number.
func known(all ...history.Attempt) *history.History {
	h := &history.History{}
	for i, a := range all {
		a.Ticket = 11 + i
		h.Add(a)
	}
	return h
}

// good is an attempt that was found good, with its ticket still to come.
func good(beginning int, read, wrote list) history.Attempt {
	return attempt(0, beginning, read, wrote)
}

func wantPartner(t *testing.T, what string, h *history.History, a history.Attempt, want int) {
	t.Helper()
	if got := h.Partner(a); got != want {
		t.Errorf("%s: the partner of %+v is %d, want %d", what, a, got, want)
	}
}

func TestCount(t *testing.T) {
	h := known()
	for n := range 5 {
		if h.Count() != n {
			t.Errorf("behind %d attempts the count is %d", n, h.Count())
		}
		h.Add(attempt(3*n+1, n, nil, nil))
		h.Forget(n)
	}
}

// P8: with nothing to meet every attempt is found good.
func TestFoundGood(t *testing.T) {
	all := list{0, 1, 2, 3, 4, 5, 6, 7, 8, 9, 10, 11, 12, 13, 14, 15}
	wantPartner(t, "the first one", known(), attempt(9, 0, all, all), 0)
	h := known(good(0, all, all), good(1, all, all))
	wantPartner(t, "none is later", h, attempt(9, 2, all, all), 0)
	h = known(good(0, list{1}, list{2}), good(0, list{3}, list{4}))
	wantPartner(t, "other keys", h, attempt(9, 0, list{1, 3, 5}, list{6, 15}), 0)
	wantPartner(t, "nothing read or written", h, attempt(9, 0, nil, nil), 0)
	wantPartner(t, "read alone", h, attempt(9, 0, all, nil), 0)
	wantPartner(t, "written alone", h, attempt(9, 0, nil, list{0, 1, 3, 5}), 0)
}

// P8: a CLASH is with the last one, later than the beginning, that wrote a key
// that was written; what was read does not count.
func TestClash(t *testing.T) {
	h := known(good(0, nil, list{1, 2}), good(1, nil, list{2, 3}), good(2, nil, list{3, 4}), good(3, list{1, 2, 3, 4, 5}, nil))
	for _, c := range []struct {
		beginning int
		wrote     list
		want      int
	}{
		{0, list{1}, 11}, {0, list{2}, 12}, {0, list{3}, 13}, {0, list{4}, 13}, {0, list{5}, 0}, {0, list{1, 2, 3, 4, 5}, 13}, {0, list{1, 5}, 11}, {0, list{1, 2}, 12},
		{1, list{1}, 0}, {1, list{2}, 12}, {1, list{1, 2, 3}, 13}, {2, list{2}, 0}, {2, list{2, 3}, 13}, {3, list{1, 2, 3, 4}, 0}, {4, list{1, 2, 3, 4}, 0},
	} {
		wantPartner(t, "CLASH", h, attempt(9, c.beginning, nil, c.wrote), c.want)
		wantPartner(t, "CLASH", h, attempt(9, c.beginning, list{9}, c.wrote), c.want)
	}
}

// P8: a PIVOT is with the first one, later than the beginning, that wrote a key
// that was read, if it or one behind it read a key that was written.
func TestPivot(t *testing.T) {
	one := known(good(0, list{1}, list{2}))
	wantPartner(t, "V is U", one, attempt(9, 0, list{2}, list{1}), 11)
	wantPartner(t, "V is U, but not later", one, attempt(9, 1, list{2}, list{1}), 0)
	wantPartner(t, "V alone", one, attempt(9, 0, list{2}, list{3}), 0)
	wantPartner(t, "U alone", one, attempt(9, 0, list{3}, list{1}), 0)
	wantPartner(t, "both read", one, attempt(9, 0, list{1}, list{3}), 0)
	vu := known(good(0, nil, list{2}), good(0, list{1}, nil))
	wantPartner(t, "V ahead of U", vu, attempt(9, 0, list{2}, list{1}), 11)
	wantPartner(t, "V is not later", vu, attempt(9, 1, list{2}, list{1}), 0)
	uv := known(good(0, list{1}, nil), good(0, nil, list{2}))
	wantPartner(t, "U ahead of V", uv, attempt(9, 0, list{2}, list{1}), 0)
	several := known(good(0, list{1}, nil), good(1, nil, list{2}), good(2, nil, list{3, 4}), good(3, list{1}, nil), good(4, nil, list{2, 5}), good(5, list{7}, nil))
	for _, c := range []struct {
		beginning   int
		read, wrote list
		want        int
	}{
		{0, list{2, 3, 5}, list{1}, 12}, {0, list{3, 5}, list{1}, 13}, {0, list{5}, list{1}, 0}, {0, list{5}, list{7}, 15}, {0, list{2}, list{7}, 12},
		{1, list{2}, list{1}, 12}, {2, list{2}, list{1}, 0}, {2, list{2, 3}, list{1}, 13}, {2, list{2}, list{1, 7}, 15}, {3, list{3}, list{1}, 0}, {3, list{2, 3}, list{1, 7}, 15}, {5, list{2}, list{7}, 0},
	} {
		wantPartner(t, "PIVOT", several, attempt(9, c.beginning, c.read, c.wrote), c.want)
	}
}

// P8: an OUTER is with the first one, later than the beginning, that wrote a key
// that was read and missed another: one that is later than its own beginning,
// and wrote what it read.
func TestOuter(t *testing.T) {
	h := known(good(0, nil, list{1}), good(0, list{1}, list{2}))
	wantPartner(t, "V and U later", h, attempt(9, 0, list{2}, list{3}), 12)
	wantPartner(t, "V not later", h, attempt(9, 1, list{2}, list{3}), 12)
	wantPartner(t, "U not later", h, attempt(9, 2, list{2}, list{3}), 0)
	wantPartner(t, "U wrote another key", h, attempt(9, 0, list{3}, list{4}), 0)
	wantPartner(t, "V itself", h, attempt(9, 0, list{1}, list{4}), 0)
	began := known(good(0, nil, list{1}), good(1, list{1}, list{2}))
	wantPartner(t, "V not later than U's beginning", began, attempt(9, 0, list{2}, list{3}), 0)
	behind := known(good(0, list{1}, list{2}), good(0, nil, list{1}))
	wantPartner(t, "V behind U", behind, attempt(9, 0, list{2}, list{3}), 0)
	self := known(good(0, list{2}, list{2}))
	wantPartner(t, "U itself is no V", self, attempt(9, 0, list{2}, list{3}), 0)
	other := known(good(0, nil, list{1}), good(0, list{5}, list{2}))
	wantPartner(t, "U read another key", other, attempt(9, 0, list{2}, list{3}), 0)
	several := known(good(0, nil, list{1}), good(1, list{1}, list{2}), good(0, list{1}, list{3}), good(0, list{1}, list{4}), good(4, nil, list{3}))
	wantPartner(t, "the first U", several, attempt(9, 0, list{2, 3, 4}, list{6}), 13)
	wantPartner(t, "another U", several, attempt(9, 0, list{2, 4}, list{6}), 14)
	wantPartner(t, "a U that missed none", several, attempt(9, 0, list{2}, list{6}), 0)
	wantPartner(t, "the first U that is later", several, attempt(9, 3, list{2, 3, 4}, list{6}), 14)
}

// P8: one that wrote nothing comes to nothing by an OUTER only if V is not later
// than its beginning.
func TestOuterOfOneThatWroteNothing(t *testing.T) {
	h := known(good(0, nil, list{7}), good(0, nil, list{1}), good(0, nil, list{1}), good(1, list{1}, list{2}), good(4, nil, list{5}), good(4, list{5}, list{6}))
	for beginning, want := range []int{0, 0, 14, 14, 0, 0, 0} {
		wantPartner(t, "V is 2 or 3", h, attempt(9, beginning, list{2}, nil), want)
	}
	for beginning, want := range []int{14, 14, 14, 14, 0, 0, 0} {
		wantPartner(t, "one that wrote", h, attempt(9, beginning, list{2}, list{9}), want)
	}
	for beginning, want := range []int{0, 0, 14, 14, 0, 16, 0} {
		wantPartner(t, "V is 2, 3 or 5", h, attempt(9, beginning, list{2, 6}, nil), want)
	}
}

// P8: a CLASH goes ahead of a PIVOT, and that of an OUTER, whichever numbers
// they have.
func TestWhichGoesAhead(t *testing.T) {
	pivot := good(0, list{1}, list{2})
	clash := good(0, nil, list{1})
	wantPartner(t, "a PIVOT, then a CLASH", known(pivot, clash), attempt(9, 0, list{2}, list{1}), 12)
	wantPartner(t, "a CLASH, then a PIVOT", known(clash, pivot), attempt(9, 0, list{2}, list{1}), 11)
	first, second := good(0, nil, list{5}), good(0, list{5}, list{6})
	h := known(first, second, good(2, list{3}, nil))
	wantPartner(t, "a PIVOT of the OUTER's V", h, attempt(9, 0, list{5, 6}, list{3}), 11)
	wantPartner(t, "an OUTER and no PIVOT", h, attempt(9, 0, list{5, 6}, list{4}), 12)
	wantPartner(t, "a CLASH with the OUTER's V", h, attempt(9, 0, list{6}, list{5}), 11)
	h = known(first, second, good(2, list{3}, list{7}))
	wantPartner(t, "a PIVOT behind an OUTER", h, attempt(9, 0, list{6, 7}, list{3}), 12)
	wantPartner(t, "a CLASH behind both", h, attempt(9, 0, list{6, 7}, list{3, 7}), 13)
}

// What was forgotten is known no more; what was not, and the count, stay.
func TestForget(t *testing.T) {
	for forgotten := -1; forgotten <= 5; forgotten++ {
		h := known(good(0, nil, list{1}), good(0, nil, list{2}), good(0, list{1, 2}, list{3}), good(0, nil, list{4}))
		h.Forget(forgotten)
		h.Forget(min(forgotten, 1))
		for number := 1; number <= 4; number++ {
			want := 0
			if number > forgotten {
				want = 10 + number
			}
			wantPartner(t, "behind Forget", h, attempt(9, 0, nil, list{number}), want)
		}
		if h.Count() != 4 {
			t.Errorf("Forget(%d) made the count %d", forgotten, h.Count())
		}
		h.Add(attempt(15, 4, nil, list{5}))
		wantPartner(t, "behind Forget and Add", h, attempt(9, 4, nil, list{5}), 15)
		wantPartner(t, "behind Forget and Add", h, attempt(9, 5, nil, list{5}), 0)
	}
}

// P8: a V counts also when it is forgotten, so long as U is known.
func TestOuterWithAForgottenV(t *testing.T) {
	h := known(good(0, nil, list{1}), good(0, list{1}, list{2}))
	h.Forget(1)
	wantPartner(t, "OUTER", h, attempt(9, 1, list{2}, list{3}), 12)
	wantPartner(t, "OUTER", h, attempt(9, 1, list{2}, nil), 12)
	h.Forget(2)
	wantPartner(t, "U is forgotten", h, attempt(9, 2, list{2}, list{3}), 0)
}
