package delta_test

import (
	"encoding/hex"
	"fmt"
	"math/rand"
	"slices"
	"strings"
	"sync"
	"testing"
	"unsafe"

	"strata/api"
	"strata/delta"
	"strata/wire"
)

// cell: where one byte of what a change makes comes from: the place of the
// base, or, if that is below 0, the byte that is put.
type cell struct {
	place int
	put   byte
}

// cellsOf: what a change makes, byte by byte, as the document's words tell it;
// and whether it is a change.
func cellsOf(s string) ([]cell, bool) {
	length, at, e := wire.Get(s, 0)
	if e != api.OK || length > 4096 {
		return nil, false
	}
	var cells []cell
	for at < len(s) {
		u, next, e := wire.Get(s, at)
		if e != api.OK || u < 2 || len(cells)+u/2 > length {
			return nil, false
		}
		if u%2 == 1 {
			place, behind, e := wire.Get(s, next)
			if e != api.OK || place+u/2 > 1<<56-1 {
				return nil, false
			}
			for i := range u / 2 {
				cells = append(cells, cell{place: place + i})
			}
			at = behind
			continue
		}
		for i := range u / 2 {
			if next+i >= len(s) {
				return nil, false
			}
			cells = append(cells, cell{-1, s[next+i]})
		}
		at = next + u/2
	}
	return cells, len(cells) == length
}

// slowApply: what the cells make of a base, and whether they fit it.
func slowApply(cells []cell, base string) (string, bool) {
	var b []byte
	for _, c := range cells {
		switch {
		case c.place < 0:
			b = append(b, c.put)
		case c.place < len(base):
			b = append(b, base[c.place])
		default:
			return "", false
		}
	}
	return string(b), true
}

// slowCompose: the cells of two changes one after the other, and whether the
// second one takes only what the first one makes.
func slowCompose(first, second []cell) ([]cell, bool) {
	var l []cell
	for _, c := range second {
		if c.place >= len(first) {
			return nil, false
		}
		if c.place >= 0 {
			c = first[c.place]
		}
		l = append(l, c)
	}
	return l, true
}

func number(n int) string {
	s, e := wire.Put(n)
	if e != api.OK {
		panic(n)
	}
	return s
}

// put and take: steps as bytes.
func put(s string) string             { return number(2*len(s)) + s }
func take(place int, size int) string { return number(2*size+1) + number(place) }

// change: a change of this length with these steps.
func change(length int, steps ...string) string {
	return number(length) + strings.Join(steps, "")
}

// hx: bytes written in hexadecimal.
func hx(s string) string {
	b, err := hex.DecodeString(strings.ReplaceAll(s, " ", ""))
	if err != nil {
		panic(err)
	}
	return string(b)
}

func noise(r *rand.Rand, size int, letters int) string {
	b := make([]byte, size)
	for i := range b {
		b[i] = byte('a' + r.Intn(letters))
	}
	return string(b)
}

// shortTexts: all texts of up to size bytes, made of these letters.
func shortTexts(letters string, size int) []string {
	all := []string{""}
	last := all
	for range size {
		var next []string
		for _, s := range last {
			for i := range len(letters) {
				next = append(next, s+letters[i:i+1])
			}
		}
		all = append(all, next...)
		last = next
	}
	return all
}

// changes: ordinary changes, and those at the edges.
func changes() []string {
	long := strings.Repeat("y", 4096)
	l := []string{
		change(0), change(1, put("a")), change(1, take(0, 1)), change(1, take(4095, 1)), change(1, take(4096, 1)),
		change(5, put("he"), take(0, 3)), change(4, take(1, 4)), change(6, take(0, 5), put("!")),
		change(3, put("a"), put("b"), put("c")), change(3, take(0, 1), take(1, 1), take(2, 1)),
		change(4, take(2, 2), take(0, 2)), change(130, take(0, 64), put(strings.Repeat("z", 66))),
		change(4096, put(long)), change(4096, take(0, 4096)), change(4096, take(1, 4096)), change(4096, put(long[:1]), take(0, 4095)),
		change(1, take(api.MaxNumber-1, 1)), change(2, take(api.MaxNumber-2, 2)), change(4096, take(api.MaxNumber-4096, 4096)),
		change(2, take(api.MaxNumber-1, 1), put("b")),
	}
	var bytes, single, back []string
	for i := range 4096 {
		bytes = append(bytes, put(string([]byte{byte(i)})))
		single = append(single, take(i, 1))
		back = append(back, take(4095-i, 1))
	}
	return append(l, change(4096, bytes...), change(4096, single...), change(4096, back...))
}

// noChanges: texts that are no changes, each for a reason of its own.
func noChanges() []string {
	return []string{
		"", "\x80", "\x80\x00", "\x81\x00\x02a", // no length
		change(4097, take(0, 4097)), change(4097, put(strings.Repeat("x", 4097))), change(api.MaxNumber, take(0, 4096)), // too long
		change(0, put("")), change(0, take(0, 0)), change(1, put(""), put("a")), change(1, put("a"), put("")), change(1, put("a"), take(0, 0)), // a step of no bytes
		change(1), change(2, put("a")), change(2, take(0, 1)), change(4096, take(0, 4095)), // too short
		change(0, put("a")), change(1, put("ab")), change(1, put("a"), put("b")), change(1, take(0, 2)), change(4096, take(0, 4096), put("a")), // more than was said
		"\x02\x04a", "\x01\x02", change(3, put("a")) + "\x04b", "\x01\xfe\xff\xff\xff\xff\xff\xff\x7fa", // bytes are missing
		"\x01\x03", "\x01\x03\x80", "\x01\x03\x80\x00", "\x01\x83\x00\x00", "\x01\x82\x00a", "\x01\x80", change(1, put("a")) + "\x80", // no number
		"\x01\x03\xff\xff\xff\xff\xff\xff\xff\xff\x7f", "\x01\x80\x80\x80\x80\x80\x80\x80\x80\x01",
		change(1, take(api.MaxNumber, 1)), change(2, take(api.MaxNumber-1, 2)), change(4096, take(api.MaxNumber-4095, 4096)), // a place beyond the last one
		"\x01\xff\xff\xff\xff\xff\xff\xff\x7f\x00", "\x01\xff\xff\xff\xff\xff\xff\xff\x7f\xff\xff\xff\xff\xff\xff\xff\x7f",
		wrapRound(),
	}
}

// wrapRound: steps whose sizes, added up in 64 bits, come round to the length 1.
func wrapRound() string {
	steps := []string{take(0, 513)}
	for range 512 {
		steps = append(steps, take(0, 1<<55-1))
	}
	return change(1, steps...)
}

// checkApply: holds Apply to the slow version.
func checkApply(t *testing.T, s string, base string) {
	t.Helper()
	want, wantE := "", api.ErrDelta
	if cells, ok := cellsOf(s); ok {
		if made, fits := slowApply(cells, base); fits {
			want, wantE = made, api.OK
		}
	}
	if got, e := delta.Apply(s, base); got != want || e != wantE {
		t.Fatalf("Apply(%.40x, %.20q) = %.20q, %d, want %.20q, %d", s, base, got, e, want, wantE)
	}
}

// checkDiff: holds Diff to the promise.
func checkDiff(t *testing.T, base, target string) {
	t.Helper()
	d, e := delta.Diff(base, target)
	cells, ok := cellsOf(d)
	made, fits := slowApply(cells, base)
	if e != api.OK || !ok || !fits || made != target {
		t.Fatalf("Diff(%.40q, %.40q) = %.40x, %d: a change %t, fits %t, makes %.40q", base, target, d, e, ok, fits, made)
	}
	if len(d) > len(target)+8 || base == target && len(d) > 8 {
		t.Fatalf("Diff(%.40q, %.40q) has %d bytes for a target of %d", base, target, len(d), len(target))
	}
	if s, e := delta.Apply(d, base); s != target || e != api.OK {
		t.Fatalf("Apply of Diff(%.40q, %.40q) = %.40q, %d", base, target, s, e)
	}
}

// checkCompose: holds Compose to the slow version. A change that fits each
// base that first fits, and makes the right text of all of them, must take
// each byte from just where the slow version does.
func checkCompose(t *testing.T, first, second string) {
	t.Helper()
	a, okA := cellsOf(first)
	b, okB := cellsOf(second)
	want, fits := slowCompose(a, b)
	s, e := delta.Compose(first, second)
	if !okA || !okB || !fits {
		if s != "" || e != api.ErrDelta {
			t.Fatalf("Compose(%.40x, %.40x) = %.40x, %d, want ErrDelta", first, second, s, e)
		}
		return
	}
	if cells, ok := cellsOf(s); e != api.OK || !ok || !slices.Equal(cells, want) {
		t.Fatalf("Compose(%.40x, %.40x) = %.40x, %d: a change %t, %.40v, want %.40v", first, second, s, e, ok, cells, want)
	}
}

func TestP5ApplyExamples(t *testing.T) {
	for _, c := range []struct {
		change, base, want string
		e                  api.Errno
	}{
		{"05 04 68 65 07 00", "llow", "hello", api.OK},
		{"05 04 68 65 07 00", "ll", "", api.ErrDelta},
		{"00", "", "", api.OK},
		{"00", "abc", "", api.OK},
		{"02 04 61", "a", "", api.ErrDelta},
		{"02 02 61", "a", "", api.ErrDelta},
		{"01 00", "a", "", api.ErrDelta},
		{"04 09 01", "hello", "ello", api.OK},
	} {
		if s, e := delta.Apply(hx(c.change), c.base); s != c.want || e != c.e {
			t.Errorf("Apply(%s, %q) = %q, %d, want %q, %d", c.change, c.base, s, e, c.want, c.e)
		}
	}
}

func TestP5ApplyFitsByOneByteOrMissesByOne(t *testing.T) {
	long := noise(rand.New(rand.NewSource(1)), 9000, 26)
	for _, place := range []int{0, 1, 127, 128, 4095, 4096, 4097, 4904} {
		for _, size := range []int{1, 2, 63, 64, 4095, 4096} {
			c := change(size, take(place, size))
			end := place + size
			if s, e := delta.Apply(c, long[:end]); s != long[place:end] || e != api.OK {
				t.Errorf("%d bytes from %d on, of %d: %.20q, %d", size, place, end, s, e)
			}
			if s, e := delta.Apply(c, long[:end-1]); s != "" || e != api.ErrDelta {
				t.Errorf("%d bytes from %d on, of %d: %.20q, %d, want ErrDelta", size, place, end-1, s, e)
			}
		}
	}
}

func TestP5ApplyOf4096BytesAndOneMore(t *testing.T) {
	long := noise(rand.New(rand.NewSource(2)), 4097, 26)
	for _, size := range []int{4095, 4096, 4097} {
		for _, c := range []string{change(size, put(long[:size])), change(size, take(0, size)), change(size, put(long[:1]), take(1, size-1))} {
			want, wantE := long[:size], api.OK
			if size > 4096 {
				want, wantE = "", api.ErrDelta
			}
			if s, e := delta.Apply(c, long); s != want || e != wantE {
				t.Errorf("a change of the length %d: %d bytes, %d, want %d", size, len(s), e, wantE)
			}
		}
	}
}

func TestP5ApplyOfWhatIsNoChange(t *testing.T) {
	for _, c := range noChanges() {
		if _, ok := cellsOf(c); ok {
			t.Errorf("%.40x is a change", c)
		}
		for _, base := range []string{"", "a", "abc", strings.Repeat("x", 5000)} {
			if s, e := delta.Apply(c, base); s != "" || e != api.ErrDelta {
				t.Errorf("Apply(%.40x, %.10q) = %.20q, %d, want ErrDelta", c, base, s, e)
			}
		}
	}
}

func TestP5ApplyOfAllShortTexts(t *testing.T) {
	for _, s := range shortTexts("\x00\x01\x02\x03\x04\x05a\x80", 6) {
		for _, base := range []string{"", "a", "bc", "defgh"} {
			checkApply(t, s, base)
		}
	}
}

func TestP5ApplyOfChangesAtTheEdges(t *testing.T) {
	r := rand.New(rand.NewSource(3))
	for _, c := range changes() {
		for _, size := range []int{0, 1, 3, 4, 5, 64, 4095, 4096, 4097, 5000} {
			checkApply(t, c, noise(r, size, 26))
		}
		if len(c) > 100 {
			continue
		}
		for end := range len(c) {
			checkApply(t, c[:end], "hello")
			checkApply(t, c[end:], "hello")
		}
		for at := range len(c) {
			for mask := range 256 {
				checkApply(t, c[:at]+string([]byte{c[at] ^ byte(mask)})+c[at+1:], "hello")
			}
		}
	}
}

func TestP6DiffOfAllShortTexts(t *testing.T) {
	texts := shortTexts("ab", 6)
	for _, base := range texts {
		for _, target := range texts {
			checkDiff(t, base, target)
		}
	}
}

func TestP6DiffOfTheSameText(t *testing.T) {
	r := rand.New(rand.NewSource(6))
	for _, letters := range []int{1, 2, 26} {
		long := noise(r, 4096, letters)
		for size := range 300 {
			checkDiff(t, long[:size], long[:size])
			checkDiff(t, long[size:], long[size:])
		}
		for _, size := range []int{1023, 1024, 2047, 2048, 4095, 4096} {
			checkDiff(t, long[:size], long[:size])
		}
	}
}

func TestP6DiffOf4096BytesAndOneMore(t *testing.T) {
	long := noise(rand.New(rand.NewSource(7)), 4097, 4)
	for _, base := range []int{0, 1, 4095, 4096, 4097} {
		for _, target := range []int{0, 1, 4095, 4096, 4097} {
			if base <= 4096 && target <= 4096 {
				checkDiff(t, long[:base], long[:target])
				checkDiff(t, long[:base], long[4097-target:])
				continue
			}
			if d, e := delta.Diff(long[:base], long[:target]); d != "" || e != api.ErrSize {
				t.Errorf("Diff of %d and %d bytes = %.20x, %d, want ErrSize", base, target, d, e)
			}
		}
	}
	huge := strings.Repeat("x", 1<<20)
	if d, e := delta.Diff(huge, huge); d != "" || e != api.ErrSize {
		t.Errorf("Diff of %d bytes = %.20x, %d, want ErrSize", len(huge), d, e)
	}
}

// edited: a text with some pieces of it left out, doubled, moved or new.
func edited(r *rand.Rand, s string, letters int) string {
	for range r.Intn(6) {
		a, b, c := r.Intn(len(s)+1), r.Intn(len(s)+1), r.Intn(len(s)+1)
		a, b = min(a, b), max(a, b)
		switch r.Intn(4) {
		case 0:
			s = s[:a] + s[b:]
		case 1:
			s = s[:c] + s[a:b] + s[c:]
		case 2:
			s = s[:c] + noise(r, r.Intn(20), letters) + s[c:]
		case 3:
			s = s[:a] + noise(r, b-a, letters) + s[b:]
		}
		s = s[:min(len(s), 4096)]
	}
	return s
}

func TestP6DiffOfEditedTexts(t *testing.T) {
	r := rand.New(rand.NewSource(8))
	for i := range 6000 {
		letters := []int{1, 2, 4, 26}[i%4]
		base := noise(r, r.Intn([]int{10, 100, 1000, 4097}[i/4%4]), letters)
		checkDiff(t, base, edited(r, base, letters))
	}
}

// A target of pieces that just pay, or just do not: here a change that takes
// wherever it can would be longer than the target.
func TestP6DiffOfManySmallPieces(t *testing.T) {
	r := rand.New(rand.NewSource(9))
	base := noise(r, 4096, 26)
	for piece := 1; piece < 12; piece++ {
		for gap := range 70 {
			var b strings.Builder
			for b.Len()+piece+gap <= 4096 {
				at := r.Intn(len(base) - piece)
				b.WriteString(base[at:at+piece] + strings.Repeat("-", gap))
			}
			checkDiff(t, base, b.String())
			checkDiff(t, b.String(), base)
		}
	}
}

func TestP6DiffOfTextsThatRepeatThemselves(t *testing.T) {
	for _, unit := range []string{"a", "ab", "abcd", "aaab", strings.Repeat("a", 63) + "b", strings.Repeat("ab", 700) + "c"} {
		long := strings.Repeat(unit, 4096/len(unit))
		for _, cut := range []int{0, 1, 2, 3, 5, 1000, len(long) / 2, len(long) - 1, len(long)} {
			checkDiff(t, long, long[cut:])
			checkDiff(t, long[cut:], long)
			checkDiff(t, long, long[:cut])
			checkDiff(t, long[:cut], long)
			checkDiff(t, long, long[:cut]+strings.Repeat("X", min(1, len(long)-cut))+long[min(cut+1, len(long)):])
		}
	}
}

// No promise, but what the store leans on: a small edit makes a small change.
func TestDiffOfASmallEditIsShort(t *testing.T) {
	r := rand.New(rand.NewSource(10))
	base := noise(r, 4000, 26)
	for _, at := range []int{0, 1, 5, 1999, 3998, 3999} {
		for _, target := range []string{base[:at] + base[at+1:], base[:at] + "--" + base[at:], base[:at] + "-" + base[at+1:]} {
			if d, e := delta.Diff(base, target); len(d) > 20 || e != api.OK {
				t.Errorf("an edit at %d: %d bytes, %d", at, len(d), e)
			}
		}
	}
}

func TestP7ComposeExample(t *testing.T) {
	c, e := delta.Compose(hx("05 04 68 65 07 00"), hx("04 09 01"))
	if s, f := delta.Apply(c, "llow"); s != "ello" || e != api.OK || f != api.OK {
		t.Errorf("Compose = %x, %d; Apply = %q, %d", c, e, s, f)
	}
}

func TestP7ComposeOfAllShortChanges(t *testing.T) {
	var l []string
	for _, s := range shortTexts("\x00\x01\x02\x03\x04\x05a", 5) {
		if _, ok := cellsOf(s); ok {
			l = append(l, s)
		}
	}
	if len(l) < 100 {
		t.Fatalf("only %d changes", len(l))
	}
	for _, first := range l {
		for _, second := range l {
			checkCompose(t, first, second)
		}
	}
}

func TestP7ComposeOfChangesAtTheEdges(t *testing.T) {
	for _, first := range changes() {
		for _, second := range changes() {
			checkCompose(t, first, second)
		}
	}
}

func TestP7ComposeOfWhatIsNoChange(t *testing.T) {
	for _, wrong := range noChanges() {
		for _, right := range changes() {
			checkCompose(t, wrong, right)
			checkCompose(t, right, wrong)
		}
		checkCompose(t, wrong, wrong)
	}
}

func TestP7ComposeTakesUpToTheLengthAndNotBeyond(t *testing.T) {
	for _, length := range []int{1, 2, 5, 127, 128, 4095, 4096} {
		for _, first := range []string{change(length, put(strings.Repeat("x", length))), change(length, take(0, length)), change(length, take(api.MaxNumber-length, length))} {
			for _, size := range []int{1, min(2, length), length} {
				last := length - size
				if s, e := delta.Compose(first, change(size, take(last, size))); s == "" || e != api.OK {
					t.Errorf("%d bytes from %d on, of %d: %.20x, %d", size, last, length, s, e)
				}
				if s, e := delta.Compose(first, change(size, take(last+1, size))); s != "" || e != api.ErrDelta {
					t.Errorf("%d bytes from %d on, of %d: %.20x, %d, want ErrDelta", size, last+1, length, s, e)
				}
			}
		}
	}
}

func TestP7ComposeFitsEachBaseThatFirstFits(t *testing.T) {
	for _, first := range changes() {
		a, _ := cellsOf(first)
		need := 0
		for _, c := range a {
			need = max(need, c.place+1)
		}
		if need > 10000 {
			continue
		}
		base := noise(rand.New(rand.NewSource(11)), need, 26)
		middle, e := delta.Apply(first, base)
		if e != api.OK {
			t.Fatalf("Apply(%.40x) to %d bytes: %d", first, need, e)
		}
		for _, second := range changes() {
			want, e := delta.Apply(second, middle)
			if e != api.OK {
				continue
			}
			c, e := delta.Compose(first, second)
			if s, f := delta.Apply(c, base); s != want || e != api.OK || f != api.OK {
				t.Errorf("Compose(%.40x, %.40x) = %.40x, %d; Apply = %.20q, %d", first, second, c, e, s, f)
			}
		}
	}
}

// randomChange: a change of up to size bytes that takes from below reach.
func randomChange(r *rand.Rand, size int, reach int) string {
	length, steps := 0, []string{}
	for range r.Intn(12) {
		n := 1 + r.Intn(size)
		if length+n > 4096 {
			break
		}
		length += n
		if n <= reach && r.Intn(3) > 0 {
			steps = append(steps, take(r.Intn(reach-n+1), n))
		} else {
			steps = append(steps, put(noise(r, n, 26)))
		}
	}
	return change(length, steps...)
}

func TestP7ComposeOfManyChanges(t *testing.T) {
	r := rand.New(rand.NewSource(12))
	for i := range 4000 {
		size := []int{2, 10, 100, 1000}[i%4]
		first := randomChange(r, size, 2*size)
		a, _ := cellsOf(first)
		checkCompose(t, first, randomChange(r, size, len(a)))
		checkCompose(t, first, randomChange(r, size, len(a)+1))
	}
}

func TestP7ComposeOfARowOfChanges(t *testing.T) {
	r := rand.New(rand.NewSource(13))
	for range 200 {
		base := noise(r, 1+r.Intn(500), 4)
		row, e := delta.Diff(base, base)
		last := base
		for range 10 {
			next := edited(r, last, 4)
			d, _ := delta.Diff(last, next)
			row, e = delta.Compose(row, d)
			if s, f := delta.Apply(row, base); s != next || e != api.OK || f != api.OK {
				t.Fatalf("from %.20q to %.20q: %.40x, %d; Apply = %.20q, %d", base, next, row, e, s, f)
			}
			last = next
		}
	}
}

func TestP1NoCallPanicsAndErrorsComeAlone(t *testing.T) {
	r := rand.New(rand.NewSource(14))
	texts := append(append(changes(), noChanges()...), "abc", strings.Repeat("\xff", 5000), strings.Repeat("\x02", 5000), strings.Repeat("\x7f", 1<<16))
	for range 200 {
		b := make([]byte, r.Intn(40))
		r.Read(b)
		texts = append(texts, string(b))
	}
	for _, a := range texts {
		for _, b := range texts {
			if s, e := delta.Apply(a, b); e != api.OK && s != "" {
				t.Fatalf("Apply(%.20x, %.20x) = %.20x beside the error %d", a, b, s, e)
			}
			if s, e := delta.Compose(a, b); e != api.OK && s != "" {
				t.Fatalf("Compose(%.20x, %.20x) = %.20x beside the error %d", a, b, s, e)
			}
		}
	}
	for i, a := range texts {
		for _, b := range texts[i%7:] {
			if s, e := delta.Diff(a, b); e != api.OK && s != "" {
				t.Fatalf("Diff(%.20x, %.20x) = %.20x beside the error %d", a, b, s, e)
			}
		}
	}
}

// answers: what all calls answer at two texts, told as a text.
func answers(a, b string) string {
	made, madeE := delta.Apply(a, b)
	diff, diffE := delta.Diff(a, b)
	both, bothE := delta.Compose(a, b)
	return fmt.Sprintf("%x %d %x %d %x %d", made, madeE, diff, diffE, both, bothE)
}

func TestP2AnswersHangOnArgumentsAlone(t *testing.T) {
	texts := append(changes()[:14], "", "abc", "hello hello hello", strings.Repeat("abcd", 300), strings.Repeat("aab", 300))
	var first []string
	for _, a := range texts {
		for _, b := range texts {
			first = append(first, answers(a, b))
		}
	}
	var all sync.WaitGroup
	for range 4 {
		all.Go(func() {
			for i := len(first) - 1; i >= 0; i-- {
				a, b := texts[i/len(texts)], texts[i%len(texts)]
				if again := answers(a, b); again != first[i] {
					t.Errorf("asked again at %.20x and %.20x: %.40s, before: %.40s", a, b, again, first[i])
				}
			}
		})
	}
	all.Wait()
}

// lent: a text, and the bytes that it stands on.
func lent(s string) (string, []byte) {
	b := []byte(s)
	return unsafe.String(unsafe.SliceData(b), len(b)), b
}

func TestP2AnswersAreNewMemory(t *testing.T) {
	calls := []struct {
		name string
		call func(string, string) (string, api.Errno)
	}{{"Apply", delta.Apply}, {"Diff", delta.Diff}, {"Compose", delta.Compose}}
	for _, f := range calls {
		for _, a := range changes() {
			for _, b := range append(changes(), "hello hello") {
				textA, bytesA := lent(a)
				textB, bytesB := lent(b)
				s, e := f.call(textA, textB)
				if string(bytesA) != a || string(bytesB) != b {
					t.Fatalf("%s(%.20x, %.20x) wrote into what was handed in", f.name, a, b)
				}
				ahead := strings.Clone(s)
				clear(bytesA)
				clear(bytesB)
				if s != ahead {
					t.Fatalf("%s(%.20x, %.20x), %d, shares memory with what was handed in", f.name, a, b, e)
				}
			}
		}
	}
}
