// Package texts: what the packages that read and write texts share.
package texts

import (
	"strings"

	"strata/wire"
)

// Join puts texts one behind the other, always in new memory: the library's
// Join hands a single text back as it is.
func Join(parts ...string) string {
	size := 0
	for _, p := range parts {
		size += len(p)
	}
	var b strings.Builder
	b.Grow(size)
	for _, p := range parts {
		b.WriteString(p)
	}
	return b.String()
}

// Number writes a number that is known to be one.
func Number(n int) string {
	s, _ := wire.Put(n)
	return s
}

// SameBegin is how many bytes two texts have in common at their beginning.
func SameBegin(a string, b string) int {
	n := 0
	for n < min(len(a), len(b)) && a[n] == b[n] {
		n++
	}
	return n
}
