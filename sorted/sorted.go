// Package sorted: values kept in the order of their keys.
package sorted

import (
	"cmp"
	"iter"
	"slices"
)

// Map has at most one value for each key. The zero Map is empty.
type Map[K cmp.Ordered, V any] struct {
	keys   []K
	values []V
}

// Len is how many keys have a value.
func (m *Map[K, V]) Len() int { return len(m.keys) }

// Get tells the value of a key, and whether it has one.
func (m *Map[K, V]) Get(key K) (V, bool) {
	at, there := slices.BinarySearch(m.keys, key)
	if !there {
		var none V
		return none, false
	}
	return m.values[at], true
}

// AtMost tells the value of the greatest key that is not above this one, and
// whether there is such a key.
func (m *Map[K, V]) AtMost(key K) (V, bool) {
	at, there := slices.BinarySearch(m.keys, key)
	if there {
		return m.values[at], true
	}
	if at == 0 {
		var none V
		return none, false
	}
	return m.values[at-1], true
}

// Put gives a key a value, in place of the one that it had.
func (m *Map[K, V]) Put(key K, value V) {
	at, there := slices.BinarySearch(m.keys, key)
	if there {
		m.values[at] = value
		return
	}
	m.keys = slices.Insert(m.keys, at, key)
	m.values = slices.Insert(m.values, at, value)
}

// Drop takes a key and its value away, if it has one.
func (m *Map[K, V]) Drop(key K) {
	at, there := slices.BinarySearch(m.keys, key)
	if there {
		m.keys = slices.Delete(m.keys, at, at+1)
		m.values = slices.Delete(m.values, at, at+1)
	}
}

// All goes through the keys in rising order, with their values. The Map must
// not get or lose a key meanwhile.
func (m *Map[K, V]) All() iter.Seq2[K, V] {
	return func(yield func(K, V) bool) {
		for i, key := range m.keys {
			if !yield(key, m.values[i]) {
				return
			}
		}
	}
}

// Backward goes through the keys in falling order, else as All does.
func (m *Map[K, V]) Backward() iter.Seq2[K, V] {
	return func(yield func(K, V) bool) {
		for i, key := range slices.Backward(m.keys) {
			if !yield(key, m.values[i]) {
				return
			}
		}
	}
}

// Union goes through the keys that one of two Maps has, or both, each once, in
// rising order. The Maps must not get or lose a key meanwhile.
func Union[K cmp.Ordered, A any, B any](a *Map[K, A], b *Map[K, B]) iter.Seq[K] {
	return func(yield func(K) bool) {
		left, right := a.keys, b.keys
		for len(left) > 0 || len(right) > 0 {
			key := lower(left, right)
			left, right = behind(left, key), behind(right, key)
			if !yield(key) {
				return
			}
		}
	}
}

// lower is the lower one of the first keys of two rows, not both of them empty.
func lower[K cmp.Ordered](left []K, right []K) K {
	if len(right) == 0 || len(left) > 0 && cmp.Less(left[0], right[0]) {
		return left[0]
	}
	return right[0]
}

// behind is a row without its first key, if that is this key.
func behind[K cmp.Ordered](row []K, key K) []K {
	if len(row) > 0 && cmp.Compare(row[0], key) == 0 {
		return row[1:]
	}
	return row
}
