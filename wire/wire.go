// Package wire: numbers and seals: see DOC.md.
package wire

import (
	"strings"

	"strata/api"
)

const (
	more        = 0x80 // added to each byte of a number but the last
	low         = 0x7f // the seven bits that a byte of a number has
	numberBytes = 8    // eight times seven bits are just those of MaxNumber
	sealBytes   = 4
)

// halves has what four of the checksum's shifts make of each half byte: Sum
// is asked for every byte that is read or written, and bit by bit is slow.
var halves = [16]uint32{
	0x00000000, 0x105ec76f, 0x20bd8ede, 0x30e349b1,
	0x417b1dbc, 0x5125dad3, 0x61c69362, 0x7198540d,
	0x82f63b78, 0x92a8fc17, 0xa24bb5a6, 0xb21572c9,
	0xc38d26c4, 0xd3d3e1ab, 0xe330a81a, 0xf36e6f75,
}

// Put writes a number (P3).
func Put(n int) (string, api.Errno) {
	if n < 0 || n > api.MaxNumber {
		return "", api.ErrNumber
	}
	var b [numberBytes]byte
	last := 0
	for n > low {
		b[last] = byte(n&low) | more
		n >>= 7
		last++
	}
	b[last] = byte(n)
	return string(b[:last+1]), api.OK
}

// Get reads a number (P3).
func Get(s string, at int) (int, int, api.Errno) {
	if at < 0 || at >= len(s) {
		return 0, 0, api.ErrForm
	}
	n := 0
	for i := range min(numberBytes, len(s)-at) {
		b := s[at+i]
		n |= int(b&low) << (7 * i)
		if b >= more {
			continue
		}
		// A last byte of 0 behind another one could be spared: Put never writes it.
		if b == 0 && i > 0 {
			return 0, 0, api.ErrForm
		}
		return n, at + i + 1, api.OK
	}
	return 0, 0, api.ErrForm
}

// Sum tells the checksum of a text (P4).
func Sum(s string) int {
	c := ^uint32(0)
	for i := range len(s) {
		c ^= uint32(s[i])
		c = c>>4 ^ halves[c&15]
		c = c>>4 ^ halves[c&15]
	}
	return int(^c)
}

// Seal puts a text's checksum behind it (P4).
func Seal(s string) string {
	return s + seal(s)
}

// Unseal takes a seal off (P4).
func Unseal(s string) (string, api.Errno) {
	if len(s) < sealBytes {
		return "", api.ErrForm
	}
	end := len(s) - sealBytes
	if s[end:] != seal(s[:end]) {
		return "", api.ErrCorrupt
	}
	// A piece of s would keep all of its memory: an answer is new memory (P2).
	return strings.Clone(s[:end]), api.OK
}

// seal is the checksum of a text as bytes, the lowest first.
func seal(s string) string {
	c := Sum(s)
	return string([]byte{byte(c), byte(c >> 8), byte(c >> 16), byte(c >> 24)})
}
