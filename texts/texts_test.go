package texts_test

import (
	"testing"
	"unsafe"

	"strata/api"
	"strata/texts"
	"strata/wire"
)

func TestJoin(t *testing.T) {
	for _, c := range []struct {
		parts []string
		want  string
	}{
		{nil, ""}, {[]string{""}, ""}, {[]string{"", ""}, ""}, {[]string{"a"}, "a"},
		{[]string{"a", "", "b\x00", "\xff"}, "ab\x00\xff"},
	} {
		if s := texts.Join(c.parts...); s != c.want {
			t.Errorf("Join(%q) = %q", c.parts, s)
		}
	}
}

func TestJoinOfOneTextIsNewMemory(t *testing.T) {
	b := []byte("text")
	for _, parts := range [][]string{{unsafe.String(&b[0], 4)}, {"", unsafe.String(&b[0], 4)}} {
		copy(b, "text")
		s := texts.Join(parts...)
		copy(b, "other")
		if s != "text" {
			t.Errorf("Join of %d texts shares memory with one of them", len(parts))
		}
	}
}

func TestNumber(t *testing.T) {
	for _, n := range []int{0, 1, 127, 128, 300, api.MaxStamp, api.MaxNumber} {
		if want, e := wire.Put(n); texts.Number(n) != want || e != api.OK {
			t.Errorf("Number(%d) = %x", n, texts.Number(n))
		}
	}
}

func TestSameBegin(t *testing.T) {
	for _, c := range []struct {
		a, b string
		want int
	}{
		{"", "", 0}, {"a", "", 0}, {"", "a", 0}, {"a", "a", 1}, {"a", "b", 0},
		{"ab", "abc", 2}, {"abc", "ab", 2}, {"abc", "abd", 2}, {"abc", "xbc", 0}, {"ä", "ö", 1},
	} {
		if n := texts.SameBegin(c.a, c.b); n != c.want {
			t.Errorf("SameBegin(%q, %q) = %d, want %d", c.a, c.b, n, c.want)
		}
	}
}
