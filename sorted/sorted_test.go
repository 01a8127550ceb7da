package sorted_test

import (
	"maps"
	"math/rand"
	"slices"
	"testing"

	"strata/sorted"
)

// same: whether m has just what want has, asked key by key and gone through.
func same(t *testing.T, m *sorted.Map[string, int], want map[string]int, keys []string) {
	t.Helper()
	if m.Len() != len(want) {
		t.Fatalf("Len() = %d, want %d", m.Len(), len(want))
	}
	for _, key := range keys {
		wanted, is := want[key]
		if v, there := m.Get(key); v != wanted || there != is {
			t.Fatalf("Get(%q) = %d, %t, want %d, %t", key, v, there, wanted, is)
		}
	}
	var order []string
	for key, v := range m.All() {
		if v != want[key] {
			t.Fatalf("All() tells %q with %d, want %d", key, v, want[key])
		}
		order = append(order, key)
	}
	if sure := slices.Sorted(maps.Keys(want)); !slices.Equal(order, sure) {
		t.Fatalf("All() tells %q, want %q", order, sure)
	}
}

func TestMapThroughManySteps(t *testing.T) {
	keys := []string{"", "\x00", "a", "aa", "ab", "b", "\x7f", "\x80", "\xff", "\xff\x00"}
	r := rand.New(rand.NewSource(1))
	for range 200 {
		var m sorted.Map[string, int]
		want := map[string]int{}
		same(t, &m, want, keys)
		for step := range 60 {
			key := keys[r.Intn(len(keys))]
			if r.Intn(3) == 0 {
				m.Drop(key)
				delete(want, key)
			} else {
				m.Put(key, step)
				want[key] = step
			}
			same(t, &m, want, keys)
		}
	}
}

func TestAllEndsWhenItIsToldTo(t *testing.T) {
	var m sorted.Map[int, string]
	for _, n := range []int{3, -1, 2} {
		m.Put(n, "v")
	}
	for most := 1; most <= 3; most++ {
		var l []int
		for n := range m.All() {
			l = append(l, n)
			if len(l) == most {
				break
			}
		}
		if want := []int{-1, 2, 3}[:most]; !slices.Equal(l, want) {
			t.Errorf("All() ended behind %d tells %d", most, l)
		}
	}
}

func TestMapsDoNotTouchOneAnother(t *testing.T) {
	var a, b sorted.Map[string, int]
	a.Put("k", 1)
	b.Put("k", 2)
	b.Drop("k")
	same(t, &a, map[string]int{"k": 1}, []string{"k"})
	same(t, &b, nil, []string{"k"})
}
