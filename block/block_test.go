package block_test

import (
	"encoding/hex"
	"fmt"
	"math"
	"math/rand"
	"slices"
	"strings"
	"sync"
	"testing"
	"unsafe"

	"strata/api"
	"strata/block"
	"strata/wire"
)

func rec(key string, stamp, kind int, body string) api.Record {
	return api.Record{Key: key, Stamp: stamp, Kind: kind, Body: body}
}

// hx: bytes written in hexadecimal.
func hx(s string) string {
	b, err := hex.DecodeString(strings.ReplaceAll(s, " ", ""))
	if err != nil {
		panic(err)
	}
	return string(b)
}

func number(n int) string {
	s, e := wire.Put(n)
	if e != api.OK {
		panic(n)
	}
	return s
}

// told: a record as bytes, with this many bytes of its key left away.
func told(same int, r api.Record) string {
	return number(same) + number(len(r.Key)-same) + r.Key[same:] + number(r.Stamp) + string(rune(r.Kind)) + number(len(r.Body)) + r.Body
}

// show: the beginning of a list, for what a test tells.
func show(l []api.Record) string { return fmt.Sprintf("%.200s", fmt.Sprintf("%+q", fmt.Sprint(l))) }

// slowBounded and slowOrder: a record's bounds, and the order of two, as the
// document's words tell them.
func slowBounded(r api.Record) bool {
	if len(r.Key) < 1 || len(r.Key) > 64 || len(r.Body) > 4200 {
		return false
	}
	return r.Stamp >= 0 && r.Stamp <= 1<<40 && (r.Kind == 0 || r.Kind == 1 || r.Kind == 2)
}

func slowOrder(ahead, r api.Record) bool {
	switch strings.Compare(ahead.Key, r.Key) {
	case -1:
		return true
	case 0:
		return r.Stamp < ahead.Stamp
	}
	return false
}

// slowSame: how many bytes the record i leaves away of its key.
func slowSame(l []api.Record, i int) int {
	if i%8 == 0 {
		return 0
	}
	for n := len(l[i].Key); ; n-- {
		if strings.HasPrefix(l[i-1].Key, l[i].Key[:n]) {
			return n
		}
	}
}

// slowText: a block's text without its seal, and whether there is one.
func slowText(l []api.Record) (string, bool) {
	if len(l) > 64 {
		return "", false
	}
	s := number(len(l))
	for i, r := range l {
		if !slowBounded(r) || i > 0 && !slowOrder(l[i-1], r) {
			return "", false
		}
		s += told(slowSame(l, i), r)
	}
	return s, true
}

// slowRead: the records of a text without its seal, each thing held to its
// bound when it is read; and whether it is the text of a block.
func slowRead(s string) ([]api.Record, bool) {
	at, good := 0, true
	next := func() int {
		n, behind, e := wire.Get(s, at)
		if good = good && e == api.OK; good {
			at = behind
		}
		return n
	}
	bytes := func(n int) string {
		if good = good && n <= len(s)-at; !good {
			return ""
		}
		at += n
		return s[at-n : at]
	}
	var l []api.Record
	count := next()
	for i := 0; i < count && good; i++ {
		same := next()
		if i == 0 && same > 0 || i > 0 && same > len(l[i-1].Key) {
			return nil, false
		}
		key := bytes(next())
		if i > 0 {
			key = l[i-1].Key[:same] + key
		}
		r := rec(key, next(), 0, "")
		kind := bytes(1)
		if !good {
			return nil, false
		}
		r.Kind, r.Body = int(kind[0]), bytes(next())
		l = append(l, r)
		if len(l) > 64 || !slowBounded(r) || same != slowSame(l, i) || i > 0 && !slowOrder(l[i-1], r) {
			return nil, false
		}
	}
	return l, good && at == len(s)
}

func checkBuild(t *testing.T, l []api.Record) {
	t.Helper()
	want, wantE := "", api.ErrOrder
	if s, ok := slowText(l); ok {
		want, wantE = wire.Seal(s), api.OK
	}
	if s, e := block.Build(l); s != want || e != wantE {
		t.Fatalf("Build(%s) = %.100x, %d, want %.100x, %d", show(l), s, e, want, wantE)
	}
}

// checkParse: Parse of a text that is sealed here.
func checkParse(t *testing.T, s string) {
	t.Helper()
	want, ok := slowRead(s)
	wantE := api.OK
	if !ok {
		want, wantE = nil, api.ErrForm
	}
	if l, e := block.Parse(wire.Seal(s)); !slices.Equal(l, want) || e != wantE {
		t.Fatalf("Parse(Seal(%.100x)) = %s, %d, want %s, %d", s, show(l), e, show(want), wantE)
	}
}

// checkBoth: Build writes these records, and Parse reads them again.
func checkBoth(t *testing.T, l []api.Record) {
	t.Helper()
	checkBuild(t, l)
	s, e := block.Build(l)
	if got, f := block.Parse(s); !slices.Equal(got, l) || e != api.OK || f != api.OK {
		t.Fatalf("Build(%s), %d; Parse = %s, %d", show(l), e, show(got), f)
	}
}

// row: n records, each keys of them of one key, with kinds and bodies of all sorts.
func row(n int, keys int) []api.Record {
	var l []api.Record
	for i := range n {
		l = append(l, rec(fmt.Sprintf("key%03d", i/keys), 1000-i, i%3, strings.Repeat("b", i*i%150)))
	}
	return l
}

// lists: lists of records that are blocks.
func lists() [][]api.Record {
	long := strings.Repeat("k", 64)
	l := [][]api.Record{
		nil, {},
		{rec("a", 0, 0, "")},
		{rec("\x00", 0, 0, "\x00")},
		{rec("\xff", 127, 1, "\xff"), rec("\xff\x00", 128, 2, "\x80")},
		{rec("ab", 7, api.Full, "x"), rec("ab", 3, api.Gone, "")},
		{rec("a", 300, 1, ""), rec("ab", 0, 0, "yz"), rec("abc", 1, 0, ""), rec("b", 2, 0, "")},
		{rec("a", 9, 0, ""), rec("a\x00", 9, 0, ""), rec("a\x7f", 9, 0, ""), rec("a\x80", 9, 0, ""), rec("b", 9, 0, "")},
		{rec("a", 1<<40, 0, ""), rec("a", 1<<40-1, 0, ""), rec("a", 1, 0, ""), rec("a", 0, 0, "")},
		{rec(long, 1<<40, 2, strings.Repeat("b", 4200))},
		{rec(long[:63], 1, 0, "x"), rec(long, 1, 1, "y"), rec(long, 0, 1, "z"), rec("l", 1, 0, "")},
		{rec("a", 5, 0, strings.Repeat("b", 127)), rec("a", 4, 0, strings.Repeat("b", 128)), rec("a", 3, 0, strings.Repeat("b", 4199))},
	}
	for _, n := range []int{1, 2, 7, 8, 9, 15, 16, 17, 25, 63, 64} {
		l = append(l, row(n, 1), row(n, 3), row(n, 64))
	}
	return l
}

func TestP8BuildExamples(t *testing.T) {
	for _, c := range []struct {
		l []api.Record
		s string
	}{
		{nil, "00"},
		{[]api.Record{rec("ab", 7, api.Full, "x"), rec("ab", 3, api.Gone, "")}, "02 00 02 61 62 07 00 01 78 02 00 03 02 00"},
		{[]api.Record{rec("ab", 300, api.Delta, "yz"), rec("ad", 0, 0, "")}, "02 00 02 61 62 ac 02 01 02 79 7a 01 01 64 00 00 00"},
		{[]api.Record{rec("abc", 1, 0, ""), rec("abd", 1, 0, ""), rec("abda", 1, 0, ""), rec("b", 1, 0, "")}, "04 00 03 61 62 63 01 00 00 02 01 64 01 00 00 03 01 61 01 00 00 00 01 62 01 00 00"},
	} {
		if s, e := block.Build(c.l); s != wire.Seal(hx(c.s)) || e != api.OK {
			t.Errorf("Build(%s) = %x, %d, want Seal(%s)", show(c.l), s, e, c.s)
		}
		if l, e := block.Parse(wire.Seal(hx(c.s))); !slices.Equal(l, c.l) || e != api.OK {
			t.Errorf("Parse(Seal(%s)) = %s, %d", c.s, show(l), e)
		}
	}
}

func TestP8BuildOf64RecordsAndOneMore(t *testing.T) {
	for _, keys := range []int{1, 2, 5, 8, 100} {
		checkBoth(t, row(64, keys))
		for _, n := range []int{65, 66, 128, 129, 1000} {
			if s, e := block.Build(row(n, keys)); s != "" || e != api.ErrOrder {
				t.Errorf("Build of %d records = %.20x, %d", n, s, e)
			}
		}
	}
}

func TestP8BuildAtTheBoundsOfARecord(t *testing.T) {
	long, body := strings.Repeat("k", 64), strings.Repeat("b", 4200)
	good := []api.Record{
		rec("k", 1, 0, ""), rec(long, 1, 0, ""), rec("k", 0, 0, ""), rec("k", 1<<40, 0, ""),
		rec("k", 1, 0, ""), rec("k", 1, 1, ""), rec("k", 1, 2, ""), rec("k", 1, 2, "x"), rec("k", 1, 0, body), rec(long, 1<<40, 2, body),
	}
	wrong := []api.Record{
		rec("", 1, 0, ""), rec(long+"k", 1, 0, ""), rec(strings.Repeat(long, 100), 1, 0, ""),
		rec("k", -1, 0, ""), rec("k", 1<<40+1, 0, ""), rec("k", math.MinInt, 0, ""), rec("k", math.MaxInt, 0, ""), rec("k", api.MaxNumber, 0, ""),
		rec("k", 1, -1, ""), rec("k", 1, 3, ""), rec("k", 1, 256, ""), rec("k", 1, 257, ""), rec("k", 1, math.MinInt, ""), rec("k", 1, math.MaxInt, ""),
		rec("k", 1, 0, body+"b"), rec("k", 1, 0, strings.Repeat(body, 100)),
	}
	// Each alone, at the beginning, in the middle and at the end of others.
	around := func(r api.Record) [][]api.Record {
		a, b, z := rec("a", 1, 0, ""), rec("b", 1, 0, ""), rec("z", 1, 0, "")
		return [][]api.Record{{r}, {r, z}, {a, r, z}, {a, b, r}}
	}
	for _, r := range good {
		for _, l := range around(r) {
			checkBoth(t, l)
		}
	}
	for _, r := range wrong {
		for _, l := range around(r) {
			if s, e := block.Build(l); s != "" || e != api.ErrOrder {
				t.Errorf("Build(%s) = %.20x, %d", show(l), s, e)
			}
		}
	}
}

func TestP8BuildOfTwoRecordsInAndOutOfOrder(t *testing.T) {
	keys := []string{"a", "b", "aa", "ab", "a\x00", "a\x7f", "a\x80", "a\xff", "\x00", "\xff", "B", "ä", strings.Repeat("a", 64)}
	stamps := []int{0, 1, 2, 127, 128, 1<<40 - 1, 1 << 40}
	good := 0
	for _, a := range keys {
		for _, b := range keys {
			for _, m := range stamps {
				for _, n := range stamps {
					l := []api.Record{rec(a, m, 0, "x"), rec(b, n, 1, "y")}
					checkBuild(t, l)
					checkBuild(t, append([]api.Record{rec("\x00\x00", 5, 0, "")}, l...))
					if a < b || a == b && n < m {
						checkBoth(t, l)
						good++
					}
				}
			}
		}
	}
	pairs := len(keys) * (len(keys) - 1) / 2
	if want := pairs*len(stamps)*len(stamps) + len(keys)*len(stamps)*(len(stamps)-1)/2; good != want {
		t.Errorf("%d pairs stand in order, want %d", good, want)
	}
}

func TestP8BuildTellsEachEighthKeyWhole(t *testing.T) {
	// All of one key: each record but 0, 8, 16, .. leaves all of it away.
	var l []api.Record
	s := number(64)
	for i := range 64 {
		l = append(l, rec("key", 100-i, 0, ""))
		if i%8 == 0 {
			s += "\x00\x03key"
		} else {
			s += "\x03\x00"
		}
		s += string(rune(100-i)) + "\x00\x00"
	}
	if got, e := block.Build(l); got != wire.Seal(s) || e != api.OK {
		t.Errorf("Build of 64 records of one key = %x, %d, want %x", got, e, wire.Seal(s))
	}
}

func TestP8BuildOfManyLists(t *testing.T) {
	r := rand.New(rand.NewSource(8))
	for range 20000 {
		checkBuild(t, someList(r))
	}
}

// someList: records of few letters and stamps: most of them in order.
func someList(r *rand.Rand) []api.Record {
	var l []api.Record
	for range r.Intn(30) {
		key := make([]byte, 1+r.Intn(4))
		for i := range key {
			key[i] = "ab"[r.Intn(2)]
		}
		l = append(l, rec(string(key), r.Intn(300), r.Intn(3), strings.Repeat("x", r.Intn(4))))
	}
	slices.SortFunc(l, func(a, b api.Record) int {
		if a.Key != b.Key {
			return strings.Compare(a.Key, b.Key)
		}
		return b.Stamp - a.Stamp
	})
	if len(l) > 2 && r.Intn(4) == 0 {
		i := r.Intn(len(l) - 1)
		l[i], l[i+1] = l[i+1], l[i]
	}
	return l
}

func TestP9ParseReadsWhatBuildWrites(t *testing.T) {
	for _, l := range lists() {
		checkBoth(t, l)
	}
	r := rand.New(rand.NewSource(9))
	for range 5000 {
		l := someList(r)
		if _, ok := slowText(l); ok {
			checkBoth(t, l)
		}
	}
}

func TestP9ParseAnswersAsUnseal(t *testing.T) {
	sealed := wire.Seal(hx("01 00 01 61 01 00 00"))
	all := []string{"", "a", "\x00\x00\x00", "abcd", "\x00abcd", "\x00\x00\x00\x00\x01", strings.Repeat("\x80", 100000), sealed + "\x00", "\x00" + sealed, sealed[1:], sealed[:len(sealed)-1]}
	for _, s := range all {
		_, want := wire.Unseal(s)
		if want == api.OK {
			t.Fatalf("%x is sealed", s)
		}
		if l, e := block.Parse(s); len(l) != 0 || e != want {
			t.Errorf("Parse(%.40x) = %s, %d, want %d", s, show(l), e, want)
		}
	}
}

func TestP9ParseTellsEachFlippedByte(t *testing.T) {
	s, _ := block.Build(row(20, 3))
	for at := range len(s) {
		for _, mask := range []byte{1, 2, 0x80, 0xff} {
			b := []byte(s)
			b[at] ^= mask
			if l, e := block.Parse(string(b)); len(l) != 0 || e != api.ErrCorrupt {
				t.Fatalf("Parse with the byte %d flipped = %s, %d", at, show(l), e)
			}
		}
	}
}

func TestP9ParseOfSealedTextsThatBuildDoesNotMake(t *testing.T) {
	long, body := strings.Repeat("k", 64), strings.Repeat("b", 4200)
	a, b := rec("a", 5, 0, ""), rec("b", 5, 0, "")
	for _, c := range []struct{ why, s string }{
		{"no number of records", ""},
		{"a number of records that is not whole", "\x80"},
		{"a number of records with a byte too many", "\x80\x00"},
		{"65 records", number(65) + strings.Repeat(told(0, a), 65)},
		{"as many records as can be told", number(api.MaxNumber)},
		{"as many records as can be told, and one of them", number(api.MaxNumber) + told(0, a)},
		{"a record too few", "\x01"},
		{"a record too few behind another", "\x02" + told(0, a)},
		{"a record too many", "\x00" + told(0, a)},
		{"a byte too many", "\x00\x00"},
		{"a byte too many behind a record", "\x01" + told(0, a) + "\x00"},
		{"an empty key", "\x01" + told(0, rec("", 1, 0, ""))},
		{"an empty key behind another", "\x02" + told(0, a) + told(0, rec("", 1, 0, ""))},
		{"a key of 65 bytes", "\x01" + told(0, rec(long+"k", 1, 0, ""))},
		{"a key of 65 bytes, of two pieces", "\x02" + told(0, rec(long, 1, 0, "")) + told(64, rec(long+"k", 1, 0, ""))},
		{"a key of 128 bytes, of two pieces", "\x02" + told(0, rec(long, 1, 0, "")) + told(64, rec(long+long, 1, 0, ""))},
		{"a key that ends beyond the text", "\x01\x00\x02a"},
		{"a key of as many bytes as can be", "\x01\x00" + number(api.MaxNumber) + "a"},
		{"bytes in common with no key", hx("01 01 00 61 01 00 00")},
		{"bytes in common beyond the key ahead", "\x02" + told(0, a) + hx("02 01 62 01 00 00")},
		{"as many bytes in common as can be", "\x02" + told(0, a) + "\x01" + number(api.MaxNumber) + "\x01b\x01\x00\x00"},
		{"too few bytes in common", "\x02" + told(0, a) + told(0, rec("ab", 1, 0, ""))},
		{"too few bytes in common, one key", "\x02" + told(0, a) + told(0, rec("a", 1, 0, ""))},
		{"one byte too few in common", "\x02" + told(0, rec("abc", 1, 0, "")) + told(1, rec("abd", 1, 0, ""))},
		{"bytes in common with a byte too many", "\x01\x80\x00\x01a\x01\x00\x00"},
		{"a stamp above the greatest", "\x01" + told(0, rec("a", 1<<40+1, 0, ""))},
		{"as great a stamp as can be told", "\x01" + told(0, rec("a", api.MaxNumber, 0, ""))},
		{"a stamp with a byte too many", hx("01 00 01 61 81 00 00 00")},
		{"no stamp", hx("01 00 01 61")},
		{"no kind", hx("01 00 01 61 01")},
		{"the kind 3", "\x01" + told(0, rec("a", 1, 3, ""))},
		{"the kind 127", "\x01" + told(0, rec("a", 1, 127, ""))},
		{"the kind 128", hx("01 00 01 61 01 80 00")},
		{"the kind 128, with another byte", hx("01 00 01 61 01 80 01 00")},
		{"the kind 255", hx("01 00 01 61 01 ff 00")},
		{"no length of the body", hx("01 00 01 61 01 00")},
		{"a length of the body with a byte too many", hx("01 00 01 61 01 00 80 00")},
		{"a body that ends beyond the text", hx("01 00 01 61 01 00 02 78")},
		{"a body of 4201 bytes", "\x01" + told(0, rec("a", 1, 0, body+"b"))},
		{"a body of as many bytes as can be", "\x01\x00\x01a\x01\x00" + number(api.MaxNumber)},
		{"one record twice", "\x02" + told(0, a) + told(1, a)},
		{"one key with a higher stamp", "\x02" + told(0, a) + told(1, rec("a", 6, 0, ""))},
		{"a lower key", "\x02" + told(0, b) + told(0, a)},
		{"a key that the one ahead begins with", "\x02" + told(0, rec("ab", 5, 0, "")) + told(1, rec("a", 1, 0, ""))},
	} {
		if l, e := block.Parse(wire.Seal(c.s)); len(l) != 0 || e != api.ErrForm {
			t.Errorf("Parse of %s = %s, %d", c.why, show(l), e)
		}
		if _, ok := slowRead(c.s); ok {
			t.Errorf("the slow version takes %s", c.why)
		}
	}
}

func TestP9ParseHoldsEachEighthKeyToBeWhole(t *testing.T) {
	l := row(64, 64)
	for wrong := range l {
		s := number(64)
		for i, r := range l {
			same := slowSame(l, i)
			if i == wrong && i%8 == 0 && i > 0 {
				same = len(r.Key)
			} else if i == wrong {
				same = 0
			}
			s += told(same, r)
		}
		want := api.ErrForm
		if wrong == 0 {
			want = api.OK
		}
		if _, e := block.Parse(wire.Seal(s)); e != want {
			t.Errorf("Parse with another beginning of the record %d: %d, want %d", wrong, e, want)
		}
	}
}

func TestP9ParseOfAllShortTexts(t *testing.T) {
	last := []string{""}
	for range 8 {
		var next []string
		for _, s := range last {
			checkParse(t, s)
			for _, b := range []string{"\x00", "\x01", "\x02", "a", "\x80"} {
				next = append(next, s+b)
			}
		}
		last = next
	}
}

func TestP9ParseOfBlocksWithAChange(t *testing.T) {
	for _, l := range lists() {
		s, ok := slowText(l)
		if !ok {
			t.Fatalf("%s is no block", show(l))
		}
		// Of long blocks some places are enough: their bodies are all alike.
		for at := 0; at <= len(s); at += 1 + len(s)/300 {
			checkParse(t, s[:at])
			checkParse(t, s[at:])
			checkParse(t, s[:at]+"\x00"+s[at:])
			checkParse(t, s[:at]+"\x80"+s[at:])
			if at == len(s) {
				continue
			}
			checkParse(t, s[:at]+s[at+1:])
			for _, d := range []byte{1, 2, 0x7f, 0x80, 0xff} {
				checkParse(t, s[:at]+string([]byte{s[at] + d})+s[at+1:])
			}
		}
	}
}

func TestP9ParseOfManyChanges(t *testing.T) {
	r := rand.New(rand.NewSource(10))
	for range 40000 {
		s, ok := slowText(someList(r))
		if !ok {
			continue
		}
		b := []byte(s)
		for range 1 + r.Intn(2) {
			b[r.Intn(len(b))] = []byte{0, 1, 2, 3, 'a', 'b', 'c', 0x7f, 0x80, 0xff}[r.Intn(10)]
		}
		checkParse(t, string(b))
	}
}

func TestP1NoCallPanicsAndErrorsComeAlone(t *testing.T) {
	r := rand.New(rand.NewSource(11))
	texts := []string{"", "\x40", "\x41", strings.Repeat("\xff", 5000), strings.Repeat("\x7f", 1<<16), strings.Repeat("\x01", 1<<20), "\x40" + strings.Repeat("\x00\x01a\x01\x00\x00", 64)}
	for range 20000 {
		b := make([]byte, r.Intn(60))
		r.Read(b)
		if len(b) > 0 {
			b[0] %= 4
		}
		texts = append(texts, string(b))
	}
	for _, s := range texts {
		for _, s := range []string{s, wire.Seal(s)} {
			if l, e := block.Parse(s); e != api.OK && len(l) != 0 {
				t.Fatalf("Parse(%.40x) = %s beside the error %d", s, show(l), e)
			}
		}
	}
	numbers := []int{math.MinInt, -1, 0, 1, 2, 3, 1 << 40, math.MaxInt}
	for _, stamp := range numbers {
		for _, kind := range numbers {
			for _, key := range []string{"", "k", strings.Repeat("k", 65)} {
				if s, e := block.Build([]api.Record{rec(key, stamp, kind, "")}); (e != api.OK) != (s == "") {
					t.Fatalf("Build of %q %d %d = %x, %d", key, stamp, kind, s, e)
				}
			}
		}
	}
}

func TestP2AnswersHangOnArgumentsAlone(t *testing.T) {
	all := lists()
	var first []string
	for _, l := range all {
		s, _ := block.Build(l)
		first = append(first, s)
	}
	var wait sync.WaitGroup
	for range 4 {
		wait.Go(func() {
			for i := len(all) - 1; i >= 0; i-- {
				s, e := block.Build(all[i])
				l, f := block.Parse(first[i])
				if s != first[i] || !slices.Equal(l, all[i]) || e != api.OK || f != api.OK {
					t.Errorf("asked again at %s: %.40x, %d; %s, %d", show(all[i]), s, e, show(l), f)
				}
			}
		})
	}
	wait.Wait()
}

func TestP2BuildLeavesItsListAlone(t *testing.T) {
	for _, l := range append(lists(), row(65, 1), []api.Record{rec("b", 1, 0, ""), rec("a", 1, 0, "")}) {
		room := append(slices.Clone(l), rec("spare", 1, 1, "room"), rec("and", 2, 2, "more"))
		given := slices.Clone(room)
		block.Build(given[:len(l)])
		if !slices.Equal(given, room) {
			t.Errorf("Build wrote into %s, or behind it", show(l))
		}
	}
}

// lent: a text, and the bytes that it stands on.
func lent(s string) (string, []byte) {
	b := []byte(s)
	return unsafe.String(unsafe.SliceData(b), len(b)), b
}

func TestP2AnswersAreNewMemory(t *testing.T) {
	for _, l := range lists() {
		var given []api.Record
		var behind [][]byte
		for _, r := range l {
			key, keyBytes := lent(r.Key)
			body, bodyBytes := lent(r.Body)
			given = append(given, rec(key, r.Stamp, r.Kind, body))
			behind = append(behind, keyBytes, bodyBytes)
		}
		s, _ := block.Build(given)
		for _, b := range behind {
			clear(b)
		}
		if want, _ := block.Build(l); s != want {
			t.Errorf("Build(%s) shares memory with what was handed in", show(l))
		}
		text, bytes := lent(s)
		got, e := block.Parse(text)
		if string(bytes) != s {
			t.Errorf("Parse wrote into what was handed in: %.40x", s)
		}
		clear(bytes)
		if !slices.Equal(got, l) || e != api.OK {
			t.Errorf("Parse(%.40x) shares memory with what was handed in", s)
		}
	}
}

func TestP2ListsOfParseShareNothing(t *testing.T) {
	for _, l := range lists() {
		s, _ := block.Build(l)
		a, _ := block.Parse(s)
		b, _ := block.Parse(s)
		for _, x := range [][]api.Record{a, b} {
			x = x[:cap(x)]
			for i := range x {
				x[i] = rec("other", i, 1, "other")
			}
			if c, e := block.Parse(s); !slices.Equal(c, l) || e != api.OK {
				t.Fatalf("Parse behind a write into an answer = %s, %d", show(c), e)
			}
			if len(l) > 0 && &x[0] == &a[0] && !slices.Equal(b, l) {
				t.Fatalf("a write into one answer changed another: %s", show(b))
			}
		}
	}
}
