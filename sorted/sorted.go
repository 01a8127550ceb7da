// Package sorted: values kept in the order of their keys.
package sorted

import (
	"cmp"
	"iter"
	"slices"
)

// Map has at most one value for each key. The zero Map is empty.
type Map[K cmp.Ordered, V any] struct {
	keys   []K
	values []V
}

// Len is how many keys have a value.
func (m *Map[K, V]) Len() int { return len(m.keys) }

// Get tells the value of a key, and whether it has one.
func (m *Map[K, V]) Get(key K) (V, bool) {
	at, there := slices.BinarySearch(m.keys, key)
	if !there {
		var none V
		return none, false
	}
	return m.values[at], true
}

// Put gives a key a value, in place of the one that it had.
func (m *Map[K, V]) Put(key K, value V) {
	at, there := slices.BinarySearch(m.keys, key)
	if there {
		m.values[at] = value
		return
	}
	m.keys = slices.Insert(m.keys, at, key)
	m.values = slices.Insert(m.values, at, value)
}

// Drop takes a key and its value away, if it has one.
func (m *Map[K, V]) Drop(key K) {
	at, there := slices.BinarySearch(m.keys, key)
	if there {
		m.keys = slices.Delete(m.keys, at, at+1)
		m.values = slices.Delete(m.values, at, at+1)
	}
}

// All goes through the keys in rising order, with their values. The Map must
// not get or lose a key meanwhile.
func (m *Map[K, V]) All() iter.Seq2[K, V] {
	return func(yield func(K, V) bool) {
		for i, key := range m.keys {
			if !yield(key, m.values[i]) {
				return
			}
		}
	}
}
