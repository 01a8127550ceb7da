package wire_test

import (
	"fmt"
	"hash/crc32"
	"math"
	"math/rand"
	"strings"
	"sync"
	"testing"
	"unsafe"

	"strata/api"
	"strata/wire"
)

// edgeNumbers: each number at which something changes: the bounds, each
// number of bits, and one to either side of these.
func edgeNumbers() []int {
	l := []int{math.MinInt, math.MinInt + 1, math.MaxInt - 1, math.MaxInt, -300, -128, -127, 300, 0xe3069283}
	for bits := range 63 {
		l = append(l, 1<<bits-1, 1<<bits, 1<<bits+1, -1<<bits)
	}
	return l
}

// edgeTexts: texts of many lengths and forms, sealed ones and broken ones.
func edgeTexts() []string {
	l := []string{"", "123456789", "the quick brown fox", "\xff\xfe\xfd", "a\x00b", "ä€"}
	for _, b := range []string{"\x00", "\x01", "\x7f", "\x80", "\xff"} {
		for _, n := range []int{1, 2, 3, 4, 5, 7, 8, 9, 16, 64, 4096, 5000} {
			l = append(l, strings.Repeat(b, n), strings.Repeat(b, n)+"\x01", strings.Repeat(b, n)+"\x00")
		}
	}
	for _, s := range l {
		l = append(l, wire.Seal(s), wire.Seal(s)+"\x00", wire.Seal(s)[1:])
	}
	return l
}

// slowPut: a number as bytes, as the document's words tell it.
func slowPut(n int) string {
	b := []byte{byte(n % 128)}
	for n /= 128; n > 0; n /= 128 {
		b[len(b)-1] += 0x80
		b = append(b, byte(n%128))
	}
	return string(b)
}

// slowGet: the number that stands in s from at on, and the place behind it.
func slowGet(s string, at int) (int, int, bool) {
	if at < 0 || at > len(s) {
		return 0, 0, false
	}
	for size := 1; size <= 8 && at+size <= len(s); size++ {
		n := 0
		for i := size - 1; i >= 0; i-- {
			n = n*128 + int(s[at+i]%128)
		}
		if slowPut(n) == s[at:at+size] {
			return n, at + size, true
		}
	}
	return 0, 0, false
}

// slowSum: the checksum, bit by bit, as the document's words tell it.
func slowSum(s string) int {
	c := uint32(0xffffffff)
	for i := range len(s) {
		c ^= uint32(s[i])
		for range 8 {
			if c&1 == 1 {
				c = c>>1 ^ 0x82f63b78
			} else {
				c >>= 1
			}
		}
	}
	return int(c ^ 0xffffffff)
}

func checkGet(t *testing.T, s string, at int) {
	t.Helper()
	n, next, e := wire.Get(s, at)
	wantN, wantNext, there := slowGet(s, at)
	want := api.OK
	if !there {
		want = api.ErrForm
	}
	if n != wantN || next != wantNext || e != want {
		t.Fatalf("Get(%.20x, %d) = %d, %d, %d, want %d, %d, %d", s, at, n, next, e, wantN, wantNext, want)
	}
}

func TestP3PutExamples(t *testing.T) {
	for _, c := range []struct {
		n int
		s string
	}{
		{0, "\x00"}, {1, "\x01"}, {127, "\x7f"}, {128, "\x80\x01"}, {300, "\xac\x02"},
		{16383, "\xff\x7f"}, {16384, "\x80\x80\x01"},
		{api.MaxNumber, "\xff\xff\xff\xff\xff\xff\xff\x7f"},
	} {
		if s, e := wire.Put(c.n); s != c.s || e != api.OK {
			t.Errorf("Put(%d) = %x, %d, want %x", c.n, s, e, c.s)
		}
	}
}

func TestP3PutAtTheEdges(t *testing.T) {
	for _, n := range edgeNumbers() {
		want, wantE := "", api.ErrNumber
		if n >= 0 && n <= 1<<56-1 {
			want, wantE = slowPut(n), api.OK
		}
		if s, e := wire.Put(n); s != want || e != wantE {
			t.Errorf("Put(%d) = %x, %d, want %x, %d", n, s, e, want, wantE)
		}
	}
}

func TestP3PutTakesAsFewBytesAsCanBe(t *testing.T) {
	for size := 1; size <= 8; size++ {
		first, last := 1<<(7*(size-1)), 1<<(7*size)-1
		if size == 1 {
			first = 0
		}
		for _, n := range []int{first, last} {
			if s, e := wire.Put(n); len(s) != size || e != api.OK {
				t.Errorf("Put(%d) = %x, %d, want %d bytes", n, s, e, size)
			}
		}
	}
}

func TestP3GetReadsWhatPutWrites(t *testing.T) {
	for _, n := range edgeNumbers() {
		s, e := wire.Put(n)
		if e != api.OK {
			continue
		}
		for _, ahead := range []string{"", "\x00", "\x80", "\xff\xff", strings.Repeat("\x80", 20)} {
			for _, behind := range []string{"", "\x00", "\x80", "\x7f\xff"} {
				got, next, e := wire.Get(ahead+s+behind, len(ahead))
				if got != n || next != len(ahead)+len(s) || e != api.OK {
					t.Errorf("Get(%x, %d) = %d, %d, %d, want %d", ahead+s+behind, len(ahead), got, next, e, n)
				}
			}
		}
	}
}

func TestP3GetOfWrongTexts(t *testing.T) {
	for _, c := range []struct {
		s  string
		at int
	}{
		{"", 0}, {"", 1}, {"", -1}, {"\x01", 1}, {"\x01", 2}, {"\x01", -1},
		{"\x01", math.MaxInt}, {"\x01", math.MinInt},
		{"\x80", 0}, {"\x80\x00", 0}, {"\x81\x00", 0}, {"\xff\x80\x00", 0}, {"\x05\x80", 1},
		{"\x80\x80\x80\x80\x80\x80\x80\x00", 0},
		{"\xff\xff\xff\xff\xff\xff\xff\xff", 0},
		{"\x80\x80\x80\x80\x80\x80\x80\x80\x01", 0},
		{"\xff\xff\xff\xff\xff\xff\xff\xff\x7f", 0},
		{strings.Repeat("\x80", 5000) + "\x01", 0},
	} {
		if n, next, e := wire.Get(c.s, c.at); n != 0 || next != 0 || e != api.ErrForm {
			t.Errorf("Get(%.20x, %d) = %d, %d, %d, want ErrForm", c.s, c.at, n, next, e)
		}
	}
}

func TestP3GetOfAllShortTexts(t *testing.T) {
	checkGet(t, "", 0)
	for a := range 256 {
		checkGet(t, string([]byte{byte(a)}), 0)
		for b := range 256 {
			s := string([]byte{byte(a), byte(b)})
			for _, c := range []string{"", "\x00", "\x01", "\x7f", "\x80", "\xff"} {
				checkGet(t, s+c, 0)
				checkGet(t, s+c, 1)
			}
		}
	}
}

func TestP3GetAtEachPlace(t *testing.T) {
	for _, s := range edgeTexts() {
		for at := -2; at < 20; at++ {
			checkGet(t, s, at)
			checkGet(t, s, len(s)-at)
		}
		for _, at := range edgeNumbers() {
			checkGet(t, s, at)
		}
	}
}

func TestP3GetOfManyTexts(t *testing.T) {
	r := rand.New(rand.NewSource(3))
	few := "\x00\x01\x7f\x80\x81\xff"
	for range 50000 {
		b := make([]byte, r.Intn(12))
		for i := range b {
			b[i] = few[r.Intn(len(few))]
		}
		checkGet(t, string(b), r.Intn(5)-1)
	}
}

func TestP4SumExamples(t *testing.T) {
	for _, c := range []struct {
		s string
		n int
	}{{"", 0}, {"123456789", 0xe3069283}, {"a", 0xc1d04330}, {"\x00\x00\x00\x00", 0x48674bc7}} {
		if n := wire.Sum(c.s); n != c.n {
			t.Errorf("Sum(%q) = %x, want %x", c.s, n, c.n)
		}
	}
}

func checkSum(t *testing.T, s string) {
	t.Helper()
	n := wire.Sum(s)
	if want := slowSum(s); n != want {
		t.Fatalf("Sum(%.20x) = %x, want %x", s, n, want)
	}
	if want := crc32.Checksum([]byte(s), crc32.MakeTable(crc32.Castagnoli)); n != int(want) {
		t.Fatalf("Sum(%.20x) = %x, the library says %x", s, n, want)
	}
}

func TestP4SumIsTheChecksum(t *testing.T) {
	for _, s := range edgeTexts() {
		checkSum(t, s)
	}
	for a := range 256 {
		for b := range 256 {
			checkSum(t, string([]byte{byte(a), byte(b)}))
		}
	}
	r := rand.New(rand.NewSource(4))
	for size := range 300 {
		b := make([]byte, size)
		r.Read(b)
		checkSum(t, string(b))
	}
	checkSum(t, strings.Repeat("strata", api.MaxDisk/6))
}

func TestP4SealExamples(t *testing.T) {
	for _, c := range []struct{ s, seal string }{
		{"", "\x00\x00\x00\x00"},
		{"123456789", "\x83\x92\x06\xe3"},
	} {
		if s := wire.Seal(c.s); s != c.s+c.seal {
			t.Errorf("Seal(%q) = %x, want %x behind it", c.s, s, c.seal)
		}
	}
}

func TestP4UnsealTakesOffWhatSealPuts(t *testing.T) {
	for _, s := range edgeTexts() {
		n := slowSum(s)
		sealed := wire.Seal(s)
		if want := s + string([]byte{byte(n), byte(n >> 8), byte(n >> 16), byte(n >> 24)}); sealed != want {
			t.Fatalf("Seal(%.20x) ends in %x, want %x", s, sealed[max(0, len(sealed)-4):], want[len(s):])
		}
		if u, e := wire.Unseal(sealed); u != s || e != api.OK {
			t.Errorf("Unseal(Seal(%.20x)) = %.20x, %d", s, u, e)
		}
		if u, e := wire.Unseal(wire.Seal(sealed)); u != sealed || e != api.OK {
			t.Errorf("Unseal of a text sealed twice: %.20x, %d", u, e)
		}
	}
}

func TestP4UnsealOfShortTexts(t *testing.T) {
	for _, s := range []string{"", "\x00", "\x00\x00", "\x00\x00\x00", "a", "ab", "abc", "\xff\xff\xff"} {
		if u, e := wire.Unseal(s); u != "" || e != api.ErrForm {
			t.Errorf("Unseal(%x) = %x, %d, want ErrForm", s, u, e)
		}
	}
}

func TestP4UnsealOfWrongSeals(t *testing.T) {
	sealed := wire.Seal("123456789")
	for _, s := range []string{
		"\x00\x00\x00\x01", "\xff\xff\xff\xff", "abcd",
		"123456789\xe3\x06\x92\x83", // the highest byte first
		"123456789\x00\x00\x00\x00",
		sealed[1:], sealed[:len(sealed)-1], sealed + "\x01", "\x00" + sealed, sealed + sealed,
	} {
		if u, e := wire.Unseal(s); u != "" || e != api.ErrCorrupt {
			t.Errorf("Unseal(%x) = %x, %d, want ErrCorrupt", s, u, e)
		}
	}
}

func TestP4UnsealTellsEachFlippedByte(t *testing.T) {
	for _, s := range []string{"", "a", "123456789", strings.Repeat("\x00", 40), strings.Repeat("\xff", 40)} {
		sealed := []byte(wire.Seal(s))
		for at := range sealed {
			for mask := 1; mask < 256; mask++ {
				sealed[at] ^= byte(mask)
				if u, e := wire.Unseal(string(sealed)); u != "" || e != api.ErrCorrupt {
					t.Fatalf("Unseal with byte %d flipped by %02x = %.20x, %d", at, mask, u, e)
				}
				sealed[at] ^= byte(mask)
			}
		}
	}
}

func TestP4UnsealTellsFourBytesSideBySide(t *testing.T) {
	r := rand.New(rand.NewSource(5))
	sealed := wire.Seal("what is sealed, and flipped in four bytes side by side")
	for at := range len(sealed) - 3 {
		for range 500 {
			b := []byte(sealed)
			for i := range 4 {
				b[at+i] ^= byte(r.Intn(256))
			}
			if string(b) == sealed {
				continue
			}
			if u, e := wire.Unseal(string(b)); u != "" || e != api.ErrCorrupt {
				t.Fatalf("Unseal with bytes flipped from %d on = %.20x, %d", at, u, e)
			}
		}
	}
}

// answers: what all calls answer at one number and one text, told as a text.
func answers(n int, s string) string {
	put, putE := wire.Put(n)
	got, next, getE := wire.Get(s, n)
	open, openE := wire.Unseal(s)
	return fmt.Sprintf("%x %d %d %d %d %x %x %x %d", put, putE, got, next, getE, wire.Sum(s), wire.Seal(s), open, openE)
}

func TestP1NoCallPanicsAndErrorsComeAlone(t *testing.T) {
	for _, n := range edgeNumbers() {
		if s, e := wire.Put(n); e != api.OK && s != "" {
			t.Errorf("Put(%d) = %x beside the error %d", n, s, e)
		}
		for _, s := range edgeTexts() {
			if got, next, e := wire.Get(s, n); e != api.OK && (got != 0 || next != 0) {
				t.Errorf("Get(%.20x, %d) = %d, %d beside the error %d", s, n, got, next, e)
			}
		}
	}
	for _, s := range edgeTexts() {
		if u, e := wire.Unseal(s); e != api.OK && u != "" {
			t.Errorf("Unseal(%.20x) = %.20x beside the error %d", s, u, e)
		}
	}
}

func TestP2AnswersHangOnArgumentsAlone(t *testing.T) {
	numbers, texts := []int{-1, 0, 1, 2, 3, 300, api.MaxNumber, api.MaxNumber + 1}, edgeTexts()
	first := make([][]string, len(numbers))
	for i, n := range numbers {
		for _, s := range texts {
			first[i] = append(first[i], answers(n, s))
		}
	}
	var all sync.WaitGroup
	for range 4 {
		all.Go(func() {
			for i := len(numbers) - 1; i >= 0; i-- {
				for j := len(texts) - 1; j >= 0; j-- {
					if again := answers(numbers[i], texts[j]); again != first[i][j] {
						t.Errorf("asked again at %d and %.20x: %.40s, before: %.40s", numbers[i], texts[j], again, first[i][j])
					}
				}
			}
		})
	}
	all.Wait()
}

func TestP2AnswersAreNewMemory(t *testing.T) {
	for _, s := range []string{"a", "123456789", strings.Repeat("x", 5000)} {
		given := []byte(wire.Seal(s))
		text := unsafe.String(unsafe.SliceData(given), len(given))
		sealed := wire.Seal(text)
		open, e := wire.Unseal(text)
		if string(given) != wire.Seal(s) {
			t.Errorf("what was handed in was written into: %.20x", given)
		}
		clear(given)
		if open != s || e != api.OK || sealed != wire.Seal(wire.Seal(s)) {
			t.Errorf("an answer shares memory with what was handed in: %.20x, %d, %.20x", open, e, sealed)
		}
	}
}
