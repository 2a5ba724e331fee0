package store_test

import (
	"math"
	"slices"
	"testing"

	"pivot/api"
	"pivot/store"
)

// pairs is a list of pairs: keys and values in turn.
func pairs(l ...int) []api.Pair {
	out := []api.Pair{}
	for i := 0; i+1 < len(l); i += 2 {
		out = append(out, api.Pair{Key: l[i], Value: l[i+1]})
	}
	return out
}

// full is a list of all the keys, each with ten times itself.
func full() []api.Pair {
	out := []api.Pair{}
	for key := 0; key < 16; key++ {
		out = append(out, api.Pair{Key: key, Value: 10 * key})
	}
	return out
}

var outside = []int{math.MinInt, -17, -16, -1, 16, 17, 32, math.MaxInt}

func TestFromPairsAndBack(t *testing.T) {
	for _, l := range [][]api.Pair{nil, {}, pairs(0, 0), pairs(15, 9999), pairs(3, 1, 4, 1, 5, 9), full()} {
		m, ok := store.FromPairs(l)
		if got := m.Pairs(); !ok || !slices.Equal(got, l) {
			t.Errorf("FromPairs(%v) = %v, %v", l, got, ok)
		}
	}
}

func TestFromPairsThatAreNoMap(t *testing.T) {
	for _, l := range [][]api.Pair{
		pairs(-1, 0), pairs(16, 0), pairs(0, -1), pairs(0, 10000),
		pairs(1, 1, 1, 1), pairs(2, 1, 1, 1), pairs(0, 1, 0, 1), pairs(14, 0, 15, 0, 16, 0),
		append(full(), api.Pair{Key: 15, Value: 150}),
	} {
		m, ok := store.FromPairs(l)
		if got := m.Pairs(); ok || len(got) != 0 {
			t.Errorf("FromPairs(%v) = %v, %v, want no map", l, got, ok)
		}
	}
}

func TestPutAndDelete(t *testing.T) {
	m := store.Map{}
	m.Put(7, 5)
	m.Put(3, 0)
	m.Put(7, 6)
	if got, want := m.Pairs(), pairs(3, 0, 7, 6); !slices.Equal(got, want) {
		t.Errorf("behind the puts: %v, want %v", got, want)
	}
	m.Delete(7)
	m.Delete(8)
	if got, want := m.Pairs(), pairs(3, 0); !slices.Equal(got, want) {
		t.Errorf("behind the deletes: %v, want %v", got, want)
	}
	if m.Value(7) != 0 || m.Sum(0, 15) != 0 {
		t.Errorf("a key that was deleted still has the value %d", m.Value(7))
	}
}

func TestTake(t *testing.T) {
	from, _ := store.FromPairs(pairs(0, 5, 3, 0, 15, 9))
	m, _ := store.FromPairs(pairs(0, 1, 1, 1, 2, 2))
	for _, key := range []int{0, 1, 3, 4, 15} {
		m.Take(key, &from)
	}
	if got, want := m.Pairs(), pairs(0, 5, 2, 2, 3, 0, 15, 9); !slices.Equal(got, want) {
		t.Errorf("what was taken made the map %v, want %v", got, want)
	}
	if m.Sum(0, 1) != 5 {
		t.Errorf("a key that has none any more still counts: the sum is %d", m.Sum(0, 1))
	}
	m.Put(0, 6)
	if got := from.Pairs(); !slices.Equal(got, pairs(0, 5, 3, 0, 15, 9)) {
		t.Errorf("the map that was taken from is now %v", got)
	}
}

func TestKeysThatAreNone(t *testing.T) {
	for _, key := range outside {
		m, _ := store.FromPairs(full())
		m.Put(key, 1)
		m.Delete(key)
		m.Take(key, &store.Map{})
		if got := m.Pairs(); !slices.Equal(got, full()) {
			t.Errorf("behind Put, Delete and Take of %d: %v", key, got)
		}
		if got := m.Value(key); got != 0 {
			t.Errorf("Value(%d) = %d, want 0", key, got)
		}
	}
}

func TestSumAndCountOfEveryRange(t *testing.T) {
	m, _ := store.FromPairs(pairs(0, 1, 3, 0, 4, 100, 15, 9999))
	values := map[int]int{0: 1, 3: 0, 4: 100, 15: 9999}
	for first := 0; first < 16; first++ {
		for last := first; last < 16; last++ {
			sum, count := 0, 0
			for key := first; key <= last; key++ {
				if value, has := values[key]; has {
					sum += value
					count++
				}
			}
			if m.Sum(first, last) != sum || m.Count(first, last) != count {
				t.Errorf("from %d to %d: %d and %d, want %d and %d", first, last, m.Sum(first, last), m.Count(first, last), sum, count)
			}
		}
	}
	if m.Sum(math.MinInt, math.MaxInt) != 10100 || m.Count(math.MinInt, math.MaxInt) != 4 {
		t.Errorf("of all numbers: %d and %d", m.Sum(math.MinInt, math.MaxInt), m.Count(math.MinInt, math.MaxInt))
	}
	if m.Sum(4, 3) != 0 || m.Count(4, 3) != 0 {
		t.Errorf("from 4 to 3: %d and %d, want nothing", m.Sum(4, 3), m.Count(4, 3))
	}
}

func TestMapsDoNotTouchOneAnother(t *testing.T) {
	m, _ := store.FromPairs(pairs(1, 1))
	other := m
	other.Put(2, 2)
	other.Delete(1)
	if got := m.Pairs(); !slices.Equal(got, pairs(1, 1)) {
		t.Errorf("a copy's puts changed the map to %v", got)
	}
	list := m.Pairs()
	list[0].Value = 9
	if got := m.Pairs(); !slices.Equal(got, pairs(1, 1)) {
		t.Errorf("what was written into a list changed the map to %v", got)
	}
}
