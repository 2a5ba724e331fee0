// Package store: the map of values, as jobs see it and as a list of pairs.
package store

import "pivot/api"

// Map gives some of the keys a value each. The empty one is Map{}.
type Map struct {
	has    [api.Keys]bool
	values [api.Keys]int // 0 where there is none, so that sums need not ask
}

// FromPairs is the map of which pairs are the list; false, if they are none.
func FromPairs(pairs []api.Pair) (Map, bool) {
	m := Map{}
	least := 0
	for _, p := range pairs {
		if p.Key < least || p.Key >= api.Keys || p.Value < 0 || p.Value > api.MaxValue {
			return Map{}, false
		}
		m.Put(p.Key, p.Value)
		least = p.Key + 1
	}
	return m, true
}

// Pairs is the map as a fresh list, by rising keys.
func (m *Map) Pairs() []api.Pair {
	pairs := []api.Pair{}
	for key := 0; key < api.Keys; key++ {
		if m.has[key] {
			pairs = append(pairs, api.Pair{Key: key, Value: m.values[key]})
		}
	}
	return pairs
}

// Put gives the key a value; a key that is none is left alone.
func (m *Map) Put(key, value int) {
	if key < 0 || key >= api.Keys {
		return
	}
	m.has[key] = true
	m.values[key] = value
}

// Delete takes the key's value away; a key that is none is left alone.
func (m *Map) Delete(key int) {
	if key < 0 || key >= api.Keys {
		return
	}
	m.has[key] = false
	m.values[key] = 0
}

// Take gives the key the value that it has in from, or none; a key that is
// none is left alone.
func (m *Map) Take(key int, from *Map) {
	if key < 0 || key >= api.Keys {
		return
	}
	m.has[key] = from.has[key]
	m.values[key] = from.values[key]
}

// Value is the key's value; 0, if it has none.
func (m *Map) Value(key int) int {
	if key < 0 || key >= api.Keys {
		return 0
	}
	return m.values[key]
}

// Sum adds up the values of the keys from first to last.
func (m *Map) Sum(first, last int) int {
	sum := 0
	for key := 0; key < api.Keys; key++ {
		if first <= key && key <= last {
			sum += m.values[key]
		}
	}
	return sum
}

// Count tells how many keys from first to last have a value.
func (m *Map) Count(first, last int) int {
	count := 0
	for key := 0; key < api.Keys; key++ {
		if first <= key && key <= last && m.has[key] {
			count++
		}
	}
	return count
}
