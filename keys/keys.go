// Package keys: sets of keys.
package keys

import "pivot/api"

// Set is some of the keys. The empty one is Set{}.
type Set struct {
	has [api.Keys]bool
}

// Add lays the key into the set; a key that is none is left out.
func (s *Set) Add(key int) {
	if key >= 0 && key < api.Keys {
		s.has[key] = true
	}
}

// Has tells whether the key is in the set.
func (s *Set) Has(key int) bool {
	return key >= 0 && key < api.Keys && s.has[key]
}

// IsEmpty tells whether no key is in the set.
func (s *Set) IsEmpty() bool {
	return s.has == [api.Keys]bool{}
}

// Meet tells whether a key is in both sets.
func Meet(a, b Set) bool {
	for key := 0; key < api.Keys; key++ {
		if a.has[key] && b.has[key] {
			return true
		}
	}
	return false
}
