// Package texts: what the packages that read and write texts share.
package texts

import (
	"strings"

	"strata/api"
	"strata/wire"
)

// Join puts texts one behind the other, always in new memory: the library's
// Join hands a single text back as it is.
func Join(parts ...string) string {
	size := 0
	for _, p := range parts {
		size += len(p)
	}
	var b strings.Builder
	b.Grow(size)
	for _, p := range parts {
		b.WriteString(p)
	}
	return b.String()
}

// Number writes a number that is known to be one.
func Number(n int) string {
	s, _ := wire.Put(n)
	return s
}

// SameBegin is how many bytes two texts have in common at their beginning.
func SameBegin(a string, b string) int {
	n := 0
	for n < min(len(a), len(b)) && a[n] == b[n] {
		n++
	}
	return n
}

// Reader goes through a text. What is not there it tells as 0 or the empty
// text, and nothing of what would stand behind it is there either.
type Reader struct {
	text   string
	at     int
	failed bool
}

// Read begins to go through a text.
func Read(text string) *Reader { return &Reader{text: text} }

// Number reads a number that is not above most.
func (r *Reader) Number(most int) int {
	n, next, e := wire.Get(r.text, r.at)
	if e != api.OK || n > most {
		r.fail()
		return 0
	}
	r.at = next
	return n
}

// Bytes reads the next n bytes, 0 at least.
func (r *Reader) Bytes(n int) string {
	if n > len(r.text)-r.at {
		r.fail()
		return ""
	}
	s := r.text[r.at : r.at+n]
	r.at += n
	return s
}

// More says whether something is left to be read.
func (r *Reader) More() bool { return r.at < len(r.text) }

// Failed says whether something that was to be read was not there.
func (r *Reader) Failed() bool { return r.failed }

// fail leaves nothing to be read, so that whoever reads till the end comes to it.
func (r *Reader) fail() {
	r.at = len(r.text)
	r.failed = true
}
