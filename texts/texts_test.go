package texts_test

import (
	"testing"
	"unsafe"

	"strata/api"
	"strata/texts"
	"strata/wire"
)

func TestJoin(t *testing.T) {
	for _, c := range []struct {
		parts []string
		want  string
	}{
		{nil, ""}, {[]string{""}, ""}, {[]string{"", ""}, ""}, {[]string{"a"}, "a"},
		{[]string{"a", "", "b\x00", "\xff"}, "ab\x00\xff"},
	} {
		if s := texts.Join(c.parts...); s != c.want {
			t.Errorf("Join(%q) = %q", c.parts, s)
		}
	}
}

func TestJoinOfOneTextIsNewMemory(t *testing.T) {
	b := []byte("text")
	for _, parts := range [][]string{{unsafe.String(&b[0], 4)}, {"", unsafe.String(&b[0], 4)}} {
		copy(b, "text")
		s := texts.Join(parts...)
		copy(b, "other")
		if s != "text" {
			t.Errorf("Join of %d texts shares memory with one of them", len(parts))
		}
	}
}

func TestNumber(t *testing.T) {
	for _, n := range []int{0, 1, 127, 128, 300, api.MaxStamp, api.MaxNumber} {
		if want, e := wire.Put(n); texts.Number(n) != want || e != api.OK {
			t.Errorf("Number(%d) = %x", n, texts.Number(n))
		}
	}
}

func TestSameBegin(t *testing.T) {
	for _, c := range []struct {
		a, b string
		want int
	}{
		{"", "", 0}, {"a", "", 0}, {"", "a", 0}, {"a", "a", 1}, {"a", "b", 0},
		{"ab", "abc", 2}, {"abc", "ab", 2}, {"abc", "abd", 2}, {"abc", "xbc", 0}, {"ä", "ö", 1},
	} {
		if n := texts.SameBegin(c.a, c.b); n != c.want {
			t.Errorf("SameBegin(%q, %q) = %d, want %d", c.a, c.b, n, c.want)
		}
	}
}

func TestReaderReadsWhatIsThere(t *testing.T) {
	r := texts.Read("\x05hello\xac\x02\x00")
	if s := r.Bytes(r.Number(5)); s != "hello" {
		t.Errorf("Bytes = %q", s)
	}
	if n := r.Number(300); n != 300 || !r.More() {
		t.Errorf("Number = %d, more: %t", n, r.More())
	}
	if s, n := r.Bytes(0), r.Number(0); s != "" || n != 0 || r.More() || r.Failed() {
		t.Errorf("at the end: %q, %d, more: %t, failed: %t", s, n, r.More(), r.Failed())
	}
	if s := r.Bytes(0); s != "" || r.Failed() {
		t.Errorf("no bytes at the end: %q, failed: %t", s, r.Failed())
	}
}

func TestReaderBehindWhatIsNotThere(t *testing.T) {
	for name, ask := range map[string]func(r *texts.Reader){
		"a number above":  func(r *texts.Reader) { r.Number(4) },
		"no number":       func(r *texts.Reader) { r.Bytes(1); r.Number(1 << 50) },
		"a byte too many": func(r *texts.Reader) { r.Bytes(5) },
		"far too many":    func(r *texts.Reader) { r.Bytes(1); r.Bytes(1<<63 - 1) },
	} {
		r := texts.Read("\x05\x80\x00\x01")
		ask(r)
		if !r.Failed() || r.More() {
			t.Errorf("%s: failed: %t, more: %t", name, r.Failed(), r.More())
		}
		if n, s := r.Number(99), r.Bytes(1); n != 0 || s != "" || !r.Failed() {
			t.Errorf("%s: then %d and %q are there", name, n, s)
		}
	}
}
