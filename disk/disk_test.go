package disk_test

import (
	"fmt"
	"math"
	"math/rand"
	"slices"
	"strings"
	"testing"
	"unsafe"

	"strata/api"
	"strata/disk"
)

var (
	long    = strings.Repeat("n", 32)
	tooLong = strings.Repeat("n", 33)
)

func TestP10NewAtTheEdges(t *testing.T) {
	for _, n := range []int{0, 1, 4096, 1048575, 1048576} {
		d, e := disk.New(n)
		if d == nil || e != api.OK {
			t.Fatalf("New(%d): %d", n, e)
		}
		if l := d.Names(); len(l) != 0 || d.Size() != 0 {
			t.Errorf("New(%d) has the files %q, of %d bytes", n, l, d.Size())
		}
	}
	for _, n := range []int{-1, 1048577, -2, 1 << 21, math.MinInt, math.MaxInt, math.MinInt + 1} {
		if d, e := disk.New(n); d != nil || e != api.ErrRange {
			t.Errorf("New(%d): %d, want ErrRange", n, e)
		}
	}
}

func TestP10ADiskHoldsAsManyBytesAsItsCapacity(t *testing.T) {
	for _, capacity := range []int{0, 1, 2, 100, 1048575, 1048576} {
		p := newPair(t, capacity)
		p.answers(api.ErrFull, put("a", strings.Repeat("x", capacity+1)))
		p.answers(api.OK, put("a", strings.Repeat("x", capacity)))
		p.answers(api.ErrFull, put("a", "y"))
		p.answers(api.ErrFull, put("b", "y"))
		p.answers(api.OK, put("a", ""))
		p.answers(api.OK, put("b", ""))
		p.answers(api.OK, remove("a"))
		p.answers(api.ErrFull, put("b", strings.Repeat("z", capacity+1)))
		p.answers(api.OK, put("b", strings.Repeat("z", capacity)))
	}
}

func TestP10RoomIsThatOfAllFilesTogether(t *testing.T) {
	p := newPair(t, 10)
	p.do(put("a", "012"), put("b", "3456"), sync("a"))
	p.answers(api.ErrFull, put("c", "789x"))
	p.answers(api.ErrFull, put("a", "789x"))
	p.answers(api.OK, put("c", "78"))
	p.answers(api.OK, put("a", "9"))
	p.answers(api.ErrFull, put("a", "x"))
	p.do(crash()) // what is lost leaves room
	p.answers(api.ErrFull, put("a", "01234567"))
	p.answers(api.OK, put("a", "0123456"))
	p.do(rename("a", "b"), remove("b"))
	p.answers(api.OK, put("c", "0123456789"))
	p.do(put("b", ""), rename("b", "c"))
	p.answers(api.OK, put("d", "0123456789"))
}

func TestP10ADiskHas64Files(t *testing.T) {
	p := newPair(t, 1000)
	for i := range 64 {
		p.answers(api.OK, put(fmt.Sprint(i), "x"))
	}
	p.answers(api.ErrFull, put("more", ""))
	p.answers(api.ErrFull, put("more", "x"))
	p.answers(api.OK, put("63", "x"))
	p.answers(api.OK, rename("0", "more"))
	p.answers(api.ErrFull, put("0", ""))
	p.answers(api.OK, rename("1", "more"))
	p.answers(api.OK, put("0", ""))
	p.answers(api.ErrFull, put("1", ""))
	p.answers(api.OK, remove("5"))
	p.answers(api.OK, put("1", ""))
	p.answers(api.ErrFull, put("5", ""))
	p.do(crash())
	p.answers(api.ErrFull, put("5", "")) // a file whose bytes are lost is still one
}

func TestP11NamesOf1And32BytesAndBeyond(t *testing.T) {
	for _, name := range []string{"a", "\x00", "\xff", " ", "/", "a/b", "..", long[:31], long, strings.Repeat("ä", 16), strings.Repeat("\x00", 32)} {
		p := newPair(t, 100)
		p.answers(api.OK, put(name, "x"))
		p.answers(api.OK, sync(name))
		p.answers(api.OK, rename(name, "other"))
		p.answers(api.OK, rename("other", name))
		p.answers(api.OK, remove(name))
	}
	for _, name := range []string{"", tooLong, strings.Repeat("ä", 17), strings.Repeat("n", 1000)} {
		p := newPair(t, 100)
		p.do(put("a", "x"), put(long, "y"))
		p.answers(api.ErrName, put(name, ""))
		p.answers(api.ErrName, put(name, "x"))
		p.answers(api.ErrName, put(name, strings.Repeat("x", 101))) // ahead of ErrFull
		p.answers(api.ErrName, sync(name))
		p.answers(api.ErrName, rename("a", name))
		p.answers(api.ErrName, rename(name, "a"))
		p.answers(api.ErrName, rename(name, name))
		p.answers(api.ErrName, remove(name))
		p.answers(api.ErrName, flip(name, 0, 1))
		p.do(crash(1, 1))
	}
}

func TestP11FilesThatAreNotThere(t *testing.T) {
	p := newPair(t, 100)
	for range 2 {
		p.answers(api.ErrName, sync("b"))
		p.answers(api.ErrName, rename("b", "c"))
		p.answers(api.ErrName, rename("b", "a"))
		p.answers(api.ErrName, rename("b", "b"))
		p.answers(api.ErrName, remove("b"))
		p.answers(api.ErrName, flip("b", 0, 0))
		p.do(put("a", "x"), put("bb", "y"), put("B", "z"))
	}
	p.answers(api.OK, rename("a", "b"))
	p.answers(api.ErrName, sync("a"))
	p.answers(api.ErrName, remove("a"))
	p.answers(api.OK, remove("b"))
	p.answers(api.ErrName, remove("b"))
}

func TestP11AFileMadeAnewHasNothingOfTheOldOne(t *testing.T) {
	p := newPair(t, 100)
	p.do(put("a", "old"), sync("a"), remove("a"), put("a", "n"), crash(), put("a", "xy"), crash(1))
	p.do(remove("a"), put("a", ""), crash(1), put("a", "xyz"), crash(2))
}

func TestP11SyncMakesBytesLastAndAppendDoesNot(t *testing.T) {
	p := newPair(t, 100)
	p.do(put("a", "ab"), put("b", "ab"), sync("a"), put("a", "cd"), crash())
	if s, _ := p.d.Read("a"); s != "ab" {
		t.Errorf("of a synced file %q is left", s)
	}
	if s, _ := p.d.Read("b"); s != "" {
		t.Errorf("of a file that is not synced %q is left", s)
	}
	p.do(put("a", "ef"), sync("b"), crash(), put("a", "gh"), sync("a"), sync("a"), crash())
	if s, _ := p.d.Read("a"); s != "abgh" {
		t.Errorf("of a file synced anew %q is left", s)
	}
}

func TestP11RenameTakesBytesAndWhatIsSyncedAlong(t *testing.T) {
	for _, keep := range [][]int{nil, {1}, {2, 1}, {0, 1}} {
		p := newPair(t, 100)
		p.do(put("m", "ab"), sync("m"), put("m", "cd"))
		p.do(put("o", "12345"), put("z", "uv"))
		p.do(rename("m", "o"))    // in place of another
		p.do(rename("o", "o"))    // its own name
		p.do(rename("o", "a"))    // a new one
		p.do(rename("z", "o"))    // one that was another's
		p.do(rename("o", "o"))    // its own name, nothing synced
		p.do(crash(keep...))      // what was renamed lasts at once
		p.do(put("a", "efghijk")) // and is the same file
	}
}

func TestP12ReadTellsBytesSyncedOrNot(t *testing.T) {
	p := newPair(t, 1000)
	all := make([]byte, 256)
	for i := range all {
		all[i] = byte(i)
	}
	p.do(put("a", string(all[:100])), sync("a"), put("a", string(all[100:])), put("a", ""))
	if s, e := p.d.Read("a"); s != string(all) || e != api.OK {
		t.Errorf("Read = %q, %d", s, e)
	}
	for _, name := range []string{"b", "", "aa", "A", tooLong} {
		if s, e := p.d.Read(name); s != "" || e != api.ErrName {
			t.Errorf("Read(%q) = %q, %d, want ErrName", name, s, e)
		}
	}
}

func TestP12NamesStandInRisingOrder(t *testing.T) {
	want := []string{"\x00", "\x00\x00", "A", "Z", "a", "a\x00", "aa", "ab", "b", long, "\x7f", "\x80", "\xc3\xa4", "\xff"}
	r := rand.New(rand.NewSource(2))
	for range 50 {
		p := newPair(t, 100)
		for _, i := range r.Perm(len(want)) {
			p.do(put(want[i], "x"))
		}
		if l := p.d.Names(); !slices.Equal(l, want) {
			t.Fatalf("Names() = %q", l)
		}
	}
}

// dead: a disk of 12 bytes that has died, and a slow one; of the bytes of "a"
// two are synced, of "b" none.
func dead(t *testing.T) *pair {
	t.Helper()
	p := newPair(t, 12)
	p.do(put("a", "ab"), sync("a"), put("a", "cd"), put("b", "xyz"), arm(1), remove("a"))
	return p
}

// changing: changing calls on a disk as dead has it ahead of its death, those
// that go and those that do not.
func changing() []call {
	return []call{
		put("a", "x"), put("a", ""), put("c", "x"), put("c", ""), put("a", "12345"), put("a", "123456"), put("", "x"), put(tooLong, "x"),
		sync("a"), sync("b"), sync("c"), sync(""),
		rename("a", "a"), rename("a", "b"), rename("b", "c"), rename("c", "a"), rename("a", ""), rename("", "a"), rename("a", tooLong),
		remove("a"), remove("b"), remove("c"), remove(""),
	}
}

func TestP11CallsOnADeadDisk(t *testing.T) {
	for _, c := range changing() {
		dead(t).answers(api.ErrDead, c)
	}
	p := dead(t)
	p.do(changing()...)
	p.do(crash(1, 2))
	p.do(changing()...)
}

func TestP12AskingADeadDisk(t *testing.T) {
	p := dead(t)
	for _, name := range []string{"a", "b", "c", "", tooLong} {
		if s, e := p.d.Read(name); s != "" || e != api.ErrDead {
			t.Errorf("Read(%q) = %q, %d, want ErrDead", name, s, e)
		}
	}
	if l := p.d.Names(); len(l) != 0 {
		t.Errorf("Names() = %q", l)
	}
	if p.d.Size() != 7 {
		t.Errorf("Size() = %d", p.d.Size())
	}
}

func TestP13ArmAtTheEdges(t *testing.T) {
	p := newPair(t, 10)
	p.do(put("a", "x"))
	for _, n := range []int{-1, -2, math.MinInt} {
		p.answers(api.ErrRange, arm(n))
		p.answers(api.OK, sync("a"))
	}
	p.answers(api.OK, arm(math.MaxInt))
	p.answers(api.OK, sync("a"))
	p.answers(api.OK, arm(0))
	p.answers(api.OK, sync("a"))
	p.answers(api.OK, arm(2))
	p.answers(api.ErrRange, arm(-1)) // nothing is changed by it
	p.answers(api.OK, sync("a"))
	p.answers(api.ErrDead, sync("a"))
}

func TestP13ArmAtEachChangingCall(t *testing.T) {
	for n := range 14 {
		p := newPair(t, 12)
		p.do(put("a", "ab"), sync("a"), put("a", "cd"), put("b", "xyz"), arm(n))
		p.do(changing()...)
		if died := 1 <= n && n <= 12; p.slow.dead != died {
			t.Errorf("Arm(%d): the disk is dead: %t", n, p.slow.dead)
		}
		p.do(crash(2, 3))
	}
}

func TestP13TheCallAtWhichTheDiskDiesDoesNothing(t *testing.T) {
	for _, c := range changing() {
		p := newPair(t, 12)
		p.do(put("a", "ab"), sync("a"), put("a", "cd"), put("b", "xyz"))
		goes := c.slowError(p.slow) == api.OK
		want := c.slowError(p.slow)
		if goes {
			want = api.ErrDead
		}
		p.do(arm(1))
		p.answers(want, c)
		p.do(crash(2, 3))
		if s, e := p.d.Read("a"); goes && (s != "abcd" || e != api.OK) {
			t.Errorf("%v at its death: of the file a %q is left", c, s)
		}
		if s, e := p.d.Read("b"); goes && (s != "xyz" || e != api.OK) {
			t.Errorf("%v at its death: of the file b %q is left", c, s)
		}
	}
}

func TestP13ArmCountsOnlyChangingCallsThatGo(t *testing.T) {
	p := newPair(t, 10)
	p.do(put("a", "x"), arm(2))
	for range 3 {
		p.do(put("a", "0123456789"), put("", ""), sync("b"), rename("b", "c"), rename("a", ""), remove("b"))
		p.do(flip("a", 0, 1), flip("a", 9, 1), flip("b", 0, 1))
		p.d.Read("a")
		p.d.Names()
		p.d.Size()
	}
	p.answers(api.OK, rename("a", "a"))
	p.answers(api.ErrDead, rename("a", "a"))
}

func TestP13ArmAnew(t *testing.T) {
	p := newPair(t, 10)
	p.do(put("a", "x"))
	p.do(arm(3), sync("a"), arm(3), sync("a"), sync("a"))
	p.answers(api.ErrDead, sync("a"))
	p.answers(api.OK, arm(0)) // a dead disk stays dead
	p.answers(api.ErrDead, sync("a"))
	p.answers(api.OK, arm(2))
	p.answers(api.ErrDead, sync("a"))
	p.answers(api.ErrRange, arm(-1))
	p.do(crash()) // and dies at no call from then on
	for range 5 {
		p.answers(api.OK, sync("a"))
	}
	p.do(arm(1), crash())
	p.answers(api.OK, sync("a"))
	p.do(arm(1))
	p.answers(api.ErrDead, sync("a"))
}

func TestP13CrashExamples(t *testing.T) {
	for _, c := range []struct {
		keep []int
		want string
	}{
		{[]int{5}, "\x01\x02\x03\x04"}, {[]int{4}, "\x01\x02\x03"}, {[]int{}, "\x01\x02"}, {nil, "\x01\x02"},
		{[]int{0}, "\x01\x02"}, {[]int{1}, "\x01\x02\x03"}, {[]int{2}, "\x01\x02\x03\x04"}, {[]int{3}, "\x01\x02"},
		{[]int{-1}, "\x01\x02"}, {[]int{-2}, "\x01\x02"}, {[]int{math.MinInt}, "\x01\x02"},
		{[]int{math.MaxInt}, "\x01\x02\x03"}, {[]int{math.MaxInt - 1}, "\x01\x02"}, {[]int{1, 2, 3}, "\x01\x02\x03"},
	} {
		p := newPair(t, 4)
		p.do(put("a", "\x01\x02"), sync("a"), put("a", "\x03\x04"), crash(c.keep...))
		if s, e := p.d.Read("a"); s != c.want || e != api.OK {
			t.Errorf("Crash(%d) leaves %x, want %x", c.keep, s, c.want)
		}
		p.do(crash(1)) // what stays is synced
		p.do(put("a", ""), crash(1))
	}
}

func TestP13CrashCountsFilesInTheOrderOfTheirNames(t *testing.T) {
	for _, keep := range [][]int{nil, {}, {1}, {0, 1}, {3, 2}, {1, 2, 3}, {1, 1, 1, 1}, {-1, 2, -3, 2, 9}, {0, 0, 0, 3, 4}} {
		p := newPair(t, 100)
		p.do(put("d", "123"), put("b", "456"), put("c", "789"), put("a", "0xy"))
		p.do(sync("b"), rename("b", "e"), rename("c", "b"), put("e", "z"))
		p.do(crash(keep...))
		p.do(put("a", "new"), put("e", "new"), arm(1), remove("a"), crash(keep...))
	}
}

func TestP14FlipAtTheEdges(t *testing.T) {
	for _, state := range [][]call{nil, {sync("a")}, {arm(1), remove("a")}} {
		p := newPair(t, 10)
		p.do(put("b", "x"), put("a", "abc"))
		p.do(state...)
		for _, at := range []int{0, 1, 2} {
			for _, mask := range []int{0, 1, 127, 128, 254, 255} {
				p.answers(api.OK, flip("a", at, mask))
			}
			for _, mask := range []int{-1, 256, -255, 257, 511, math.MinInt, math.MaxInt} {
				p.answers(api.ErrRange, flip("a", at, mask))
			}
		}
		for _, at := range []int{-1, 3, 4, 9, math.MinInt, math.MaxInt} {
			p.answers(api.ErrRange, flip("a", at, 1))
			p.answers(api.ErrRange, flip("a", at, 256))
			p.answers(api.ErrName, flip("c", at, 256)) // ahead of ErrRange
		}
		p.do(crash(3)) // what was flipped on a dead disk is seen, and what was synced is so still
	}
}

func TestP14FlipOfAFileWithoutBytes(t *testing.T) {
	p := newPair(t, 10)
	p.do(put("a", ""))
	p.answers(api.ErrRange, flip("a", 0, 1))
	p.answers(api.ErrRange, flip("a", -1, 0))
	p.do(put("a", "x"), crash())
	p.answers(api.ErrRange, flip("a", 0, 1)) // the byte is lost
}

func TestP14FlipOfEachMask(t *testing.T) {
	for mask := range 256 {
		p := newPair(t, 3)
		p.do(put("a", "abc"), sync("a"), flip("a", 1, mask))
		if s, _ := p.d.Read("a"); s != "a"+string([]byte{'b' ^ byte(mask)})+"c" {
			t.Errorf("Flip with %d leaves %q", mask, s)
		}
		p.do(flip("a", 1, mask), crash())
		if s, _ := p.d.Read("a"); s != "abc" {
			t.Errorf("Flip with %d twice leaves %q", mask, s)
		}
	}
}

// few: calls that make much of a disk of five bytes and two names.
func few() []call {
	return []call{
		put("a", "xy"), put("b", "z"), put("a", "123"), put("b", ""), sync("a"), sync("b"),
		rename("a", "b"), rename("b", "a"), rename("a", "a"), remove("a"), remove("b"),
		arm(1), arm(2), crash(1, 1), crash(), flip("a", 1, 7),
	}
}

func TestP11AllShortRowsOfCalls(t *testing.T) {
	l := few()
	var row func(done []call)
	row = func(done []call) {
		if len(done) == 4 {
			p := newPair(t, 5)
			p.do(done...)
			p.do(crash(2, 1)) // what was synced is to be seen
			return
		}
		for _, c := range l {
			row(append(slices.Clip(done), c))
		}
	}
	row(nil)
}

// some: a call made at random.
func some(r *rand.Rand) call {
	names := []string{"a", "b", "ab", "c", long, "", tooLong, "\xff"}
	name := func() string { return names[r.Intn(len(names))] }
	switch r.Intn(12) {
	case 0, 1, 2, 3:
		return put(name(), strings.Repeat(string(rune('a'+r.Intn(26))), r.Intn(9)*r.Intn(4)))
	case 4, 5:
		return sync(name())
	case 6:
		return rename(name(), name())
	case 7:
		return remove(name())
	case 8:
		return arm(r.Intn(20) - 1)
	case 9:
		return flip(name(), r.Intn(20)-1, r.Intn(260)-2)
	}
	keep := make([]int, r.Intn(6))
	for i := range keep {
		keep[i] = r.Intn(40) - 5
	}
	return crash(keep...)
}

func TestP13ManyRowsOfCalls(t *testing.T) {
	r := rand.New(rand.NewSource(3))
	for range 3000 {
		p := newPair(t, r.Intn(60))
		for range 60 {
			p.do(some(r))
		}
	}
}

func TestP1NoCallPanicsAndErrorsComeAlone(t *testing.T) {
	numbers := []int{math.MinInt, -1 << 32, -1, 0, 1, 2, 255, 256, 1 << 20, 1<<20 + 1, 1 << 40, math.MaxInt - 1, math.MaxInt}
	names := []string{"", "a", "b", long, tooLong, strings.Repeat("x", 1<<21), "\x00\xff"}
	for _, capacity := range []int{0, 5, 1 << 20} {
		p := newPair(t, capacity)
		for _, a := range names {
			p.do(put(a, a), put(a, "xy"), sync(a), put(a, "z"))
			for _, n := range numbers {
				for _, m := range numbers {
					p.do(flip(a, n, m))
				}
				p.do(arm(n), put(a, ""), crash(n, n), arm(n), remove("b"), crash())
			}
			for _, b := range names {
				p.do(rename(a, b))
			}
		}
	}
}

// lent: a text, and the bytes that it stands on.
func lent(s string) (string, []byte) {
	b := []byte(s)
	return unsafe.String(unsafe.SliceData(b), len(b)), b
}

func TestP2NoTextIsKept(t *testing.T) {
	p := newPair(t, 100)
	name, nameBytes := lent("name")
	text, textBytes := lent("text")
	other, otherBytes := lent("other")
	p.do(put(name, text), put(name, text), sync(name), put("x", "y"), rename("x", other))
	if string(nameBytes)+string(textBytes)+string(otherBytes) != "nametextother" {
		t.Errorf("what was handed in was written into: %q %q %q", nameBytes, textBytes, otherBytes)
	}
	clear(nameBytes)
	clear(textBytes)
	clear(otherBytes)
	if l := p.d.Names(); !slices.Equal(l, []string{"name", "other"}) {
		t.Errorf("Names() = %q: a name that was handed in is kept", l)
	}
	if s, e := p.d.Read("name"); s != "texttext" || e != api.OK {
		t.Errorf("Read(name) = %q, %d: a text that was handed in is kept", s, e)
	}
}

func TestP2AnswersAreNewMemory(t *testing.T) {
	p := newPair(t, 100)
	p.do(put("name", "text"), put("other", "text"))
	l := p.d.Names()
	s, _ := p.d.Read("name")
	for _, told := range append(slices.Clone(l), s) {
		clear(unsafe.Slice(unsafe.StringData(told), len(told)))
	}
	clear(l[:cap(l)])
	if got := p.d.Names(); !slices.Equal(got, []string{"name", "other"}) {
		t.Errorf("Names() = %q behind writing into an answer", got)
	}
	if s, e := p.d.Read("name"); s != "text" || e != api.OK {
		t.Errorf("Read(name) = %q, %d behind writing into an answer", s, e)
	}
	first, _ := p.d.Read("name")
	p.do(flip("name", 0, 255), remove("name"))
	if first != "text" {
		t.Errorf("what was read is %q behind Flip", first)
	}
}

func TestP2CrashLeavesItsListAlone(t *testing.T) {
	p := newPair(t, 100)
	p.do(put("a", "abc"), put("b", "abc"), put("c", "abc"))
	keep := []int{5, -1, 77, 88}
	p.do(crash(keep[:2]...)) // "c" keeps nothing, whatever stands behind the list
	if s, _ := p.d.Read("c"); s != "" || !slices.Equal(keep, []int{5, -1, 77, 88}) {
		t.Errorf("Crash leaves %q, and its list %d", s, keep)
	}
	p.do(put("c", "xyz"))
	clear(keep)
	if s, _ := p.d.Read("a"); s != "a" {
		t.Errorf("of the file a %q is left", s)
	}
}

func TestP2DisksDoNotTouchOneAnother(t *testing.T) {
	for i := range 8 {
		t.Run(fmt.Sprint(i), func(t *testing.T) {
			t.Parallel()
			r := rand.New(rand.NewSource(int64(i)))
			a, b := newPair(t, 50), newPair(t, 50)
			for range 3000 {
				a.do(some(r))
				b.do(some(r))
			}
		})
	}
}
