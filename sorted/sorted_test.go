package sorted_test

import (
	"iter"
	"maps"
	"math/rand"
	"slices"
	"testing"

	"strata/sorted"
)

// same: whether m has just what want has, asked key by key and gone through.
func same(t *testing.T, m *sorted.Map[string, int], want map[string]int, keys []string) {
	t.Helper()
	if m.Len() != len(want) {
		t.Fatalf("Len() = %d, want %d", m.Len(), len(want))
	}
	for _, key := range keys {
		wanted, is := want[key]
		if v, there := m.Get(key); v != wanted || there != is {
			t.Fatalf("Get(%q) = %d, %t, want %d, %t", key, v, there, wanted, is)
		}
	}
	var order []string
	for key, v := range m.All() {
		if v != want[key] {
			t.Fatalf("All() tells %q with %d, want %d", key, v, want[key])
		}
		order = append(order, key)
	}
	if sure := slices.Sorted(maps.Keys(want)); !slices.Equal(order, sure) {
		t.Fatalf("All() tells %q, want %q", order, sure)
	}
	for key, v := range m.Backward() {
		if v != want[key] || len(order) == 0 || key != order[len(order)-1] {
			t.Fatalf("Backward() tells %q with %d, want the last of %q", key, v, order)
		}
		order = order[:len(order)-1]
	}
	if len(order) > 0 {
		t.Fatalf("Backward() does not tell %q", order)
	}
	for _, key := range keys {
		wanted, is, greatest := 0, false, ""
		for k, v := range want {
			if k <= key && (!is || k > greatest) {
				wanted, is, greatest = v, true, k
			}
		}
		if v, there := m.AtMost(key); v != wanted || there != is {
			t.Fatalf("AtMost(%q) = %d, %t, want %d, %t", key, v, there, wanted, is)
		}
	}
}

func TestMapThroughManySteps(t *testing.T) {
	keys := []string{"", "\x00", "a", "aa", "ab", "b", "\x7f", "\x80", "\xff", "\xff\x00"}
	r := rand.New(rand.NewSource(1))
	for range 200 {
		var m sorted.Map[string, int]
		want := map[string]int{}
		same(t, &m, want, keys)
		for step := range 60 {
			key := keys[r.Intn(len(keys))]
			if r.Intn(3) == 0 {
				m.Drop(key)
				delete(want, key)
			} else {
				m.Put(key, step)
				want[key] = step
			}
			same(t, &m, want, keys)
		}
	}
}

// first: the first keys that a function tells, ended behind most of them.
func first(most int, keys iter.Seq[int]) []int {
	var l []int
	for n := range keys {
		l = append(l, n)
		if len(l) == most {
			break
		}
	}
	return l
}

// keysOf: the keys alone.
func keysOf(all iter.Seq2[int, string]) iter.Seq[int] {
	return func(yield func(int) bool) {
		for n := range all {
			if !yield(n) {
				return
			}
		}
	}
}

func mapOf(keys ...int) *sorted.Map[int, string] {
	var m sorted.Map[int, string]
	for _, n := range keys {
		m.Put(n, "v")
	}
	return &m
}

func TestARangeEndsWhenItIsToldTo(t *testing.T) {
	m := mapOf(3, -1, 2)
	for most := 1; most <= 3; most++ {
		if l := first(most, keysOf(m.All())); !slices.Equal(l, []int{-1, 2, 3}[:most]) {
			t.Errorf("All() ended behind %d tells %d", most, l)
		}
		if l := first(most, keysOf(m.Backward())); !slices.Equal(l, []int{3, 2, -1}[:most]) {
			t.Errorf("Backward() ended behind %d tells %d", most, l)
		}
		if l := first(most, sorted.Union(m, mapOf(0, 2))); !slices.Equal(l, []int{-1, 0, 2}[:most]) {
			t.Errorf("Union ended behind %d tells %d", most, l)
		}
	}
}

func TestUnionOfAllSmallMaps(t *testing.T) {
	for a := range 32 {
		for b := range 32 {
			var left, right sorted.Map[int, int8]
			var want []int
			for n := range 5 {
				if a>>n&1 == 1 {
					left.Put(n, 1)
				}
				if b>>n&1 == 1 {
					right.Put(n, 2)
				}
				if (a|b)>>n&1 == 1 {
					want = append(want, n)
				}
			}
			if l := first(100, sorted.Union(&left, &right)); !slices.Equal(l, want) {
				t.Errorf("Union tells %d, want %d", l, want)
			}
		}
	}
}

func TestUnionOfMapsWithValuesOfTwoTypes(t *testing.T) {
	var numbers sorted.Map[string, int]
	var texts sorted.Map[string, []string]
	numbers.Put("b", 1)
	texts.Put("a", nil)
	texts.Put("b", nil)
	if l := slices.Collect(sorted.Union(&numbers, &texts)); !slices.Equal(l, []string{"a", "b"}) {
		t.Errorf("Union tells %q", l)
	}
}

func TestMapsDoNotTouchOneAnother(t *testing.T) {
	var a, b sorted.Map[string, int]
	a.Put("k", 1)
	b.Put("k", 2)
	b.Drop("k")
	same(t, &a, map[string]int{"k": 1}, []string{"k"})
	same(t, &b, nil, []string{"k"})
}
