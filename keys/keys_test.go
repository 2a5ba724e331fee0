package keys_test

import (
	"math"
	"testing"

	"pivot/keys"
)

// set is the set of the keys.
func set(all ...int) keys.Set {
	s := keys.Set{}
	for _, key := range all {
		s.Add(key)
	}
	return s
}

func TestHas(t *testing.T) {
	for added := range 16 {
		s := set(added)
		for key := -2; key <= 18; key++ {
			if s.Has(key) != (key == added) {
				t.Errorf("the set of %d has %d: %v", added, key, s.Has(key))
			}
		}
	}
	both := set(3, 5, 3)
	if !both.Has(3) || !both.Has(5) || both.Has(4) {
		t.Errorf("the set of 3 and 5 is %v", both)
	}
}

func TestIsEmpty(t *testing.T) {
	none := keys.Set{}
	if !none.IsEmpty() {
		t.Errorf("the empty set is not empty")
	}
	for key := range 16 {
		if s := set(key); s.IsEmpty() {
			t.Errorf("the set of %d is empty", key)
		}
	}
}

func TestKeysThatAreNone(t *testing.T) {
	for _, key := range []int{math.MinInt, -16, -1, 16, 17, 32, math.MaxInt} {
		s := set(key)
		if !s.IsEmpty() || s.Has(key) {
			t.Errorf("the set of %d is %v", key, s)
		}
	}
}

func TestMeet(t *testing.T) {
	for a := range 16 {
		for b := range 16 {
			if keys.Meet(set(a), set(b)) != (a == b) {
				t.Errorf("%d and %d meet: %v", a, b, a != b)
			}
		}
	}
	if keys.Meet(set(0, 2, 4, 15), set(1, 3, 5, 14)) || !keys.Meet(set(0, 2, 4, 15), set(1, 3, 4, 14)) {
		t.Errorf("sets of several keys meet where they do not, or do not where they do")
	}
	if keys.Meet(set(), set()) || keys.Meet(set(3), set()) || keys.Meet(set(), set(3)) {
		t.Errorf("the empty set meets another")
	}
}

// A set that was copied is another one.
func TestACopyIsAnother(t *testing.T) {
	first := set(1)
	second := first
	second.Add(2)
	if first.Has(2) || !second.Has(1) {
		t.Errorf("the first is %v, its copy %v", first, second)
	}
}
