package store_test

import (
	"fmt"
	"maps"
	"math"
	"math/rand"
	"slices"
	"strings"
	"testing"
	"unsafe"

	"strata/api"
	"strata/store"
)

const (
	plenty   = 1 << 20
	maxStamp = 1 << 40
)

var (
	longKey = strings.Repeat("k", 64)
	longest = strings.Repeat("0123456789abcdef", 256) // a value of 4096 bytes
)

// noise: n bytes that no change can tell more shortly.
func noise(r *rand.Rand, n int) string {
	b := make([]byte, n)
	r.Read(b)
	return string(b)
}

// edited: a text with some bytes changed, put in or taken out.
func edited(r *rand.Rand, s string) string {
	for range 1 + r.Intn(3) {
		at, till := r.Intn(len(s)+1), 0
		till = min(len(s), at+r.Intn(6))
		s = s[:at] + noise(r, r.Intn(6)) + s[till:]
	}
	return s[:min(len(s), 4096)]
}

// someCall: a call that mostly goes, on a store whose last stamp is n.
func someCall(r *rand.Rand, n int, values []string) call {
	key := fmt.Sprint("k", strings.Repeat("y", r.Intn(3)), r.Intn(6))
	switch x := r.Intn(100); {
	case x < 60:
		i := r.Intn(len(values))
		values[i] = edited(r, values[i])
		return put(key, n-r.Intn(3), values[i])
	case x < 72:
		return del(key, n-r.Intn(3))
	case x < 78:
		return raise(n - r.Intn(30))
	case x < 89:
		return flush
	case x < 96:
		return compact
	}
	return reopen
}

// someValues: values of many lengths, to be edited.
func someValues(r *rand.Rand) []string {
	return []string{"", noise(r, 5), noise(r, 40), noise(r, 300), noise(r, 3000), noise(r, 4096)}
}

func TestExample6(t *testing.T) {
	p := newPair(t, plenty, put("k", 5, "one"), put("k", 9, "two"), del("k", 12))
	for stamp := range 20 {
		want := "one"
		if stamp >= 9 {
			want = "two"
		}
		if stamp < 5 || stamp >= 12 {
			want = ""
		}
		if v, there, e := p.s.GetAt("k", stamp); v != want || there != (want != "") || e != api.OK {
			t.Errorf("GetAt(%d) = %q, %t, %d, want %q", stamp, v, there, e, want)
		}
	}
	p.both(api.ErrStamp, put("k", 12, "x"))
	p.both(api.OK, flush)
	p.both(api.OK, raise(10))
	if v, there, e := p.s.GetAt("k", 9); v != "" || there || e != api.ErrStamp {
		t.Errorf("GetAt below the watermark = %q, %t, %d", v, there, e)
	}
	p.both(api.ErrPending, compact)
	p.both(api.OK, flush)
	p.both(api.OK, compact)
	if n := len(p.m.now.versions); n != 2 {
		t.Errorf("the slow store has %d versions", n)
	}
	p.same()
	p.do(raise(12), flush, compact, reopen)
	if n := len(p.m.now.versions); n != 0 {
		t.Errorf("the slow store has %d versions", n)
	}
	p.same()
}

func TestP15OpenOfADiskWithoutFiles(t *testing.T) {
	for _, capacity := range []int{0, 1, 100, plenty} {
		p := newPair(t, capacity, reopen, flush, compact, reopen)
		p.same()
		p.do(raise(-1), compact) // the watermark is -1: nothing is pending by that
		p.both(api.OK, put("k", 0, ""))
		p.same()
		if l := p.d.Names(); len(l) != 0 {
			t.Errorf("nothing was flushed, and there are the files %q", l)
		}
	}
}

func TestP15OpenFindsWhatWasFlushedAndNothingElse(t *testing.T) {
	p := newPair(t, plenty, put("a", 1, "x"), flush, put("a", 2, "y"), put("b", 7, "z"), del("c", 3), raise(2), reopen)
	p.same()
	p.do(compact) // nothing is pending
	p.both(api.OK, put("a", 2, "z"))
	p.both(api.OK, put("b", 1, "z"))
	p.both(api.OK, raise(0))
	p.do(flush, raise(1), reopen)
	p.same()
	p.both(api.ErrStamp, put("b", 0, "z"))
	p.both(api.ErrStamp, raise(-1))
}

func TestP15AWatermarkAloneIsFlushed(t *testing.T) {
	for _, w := range []int{0, 1, 127, 128, maxStamp - 1, maxStamp} {
		p := newPair(t, plenty, raise(w), flush, reopen)
		p.both(api.ErrStamp, raise(w-1))
		p.both(api.OK, compact) // nothing is pending
		p.both(api.OK, raise(w))
		p.both(api.ErrStamp, put("k", w, ""))
		p.same()
		p.do(put("k", w+1, "")) // goes, unless that is beyond MaxStamp
		p.same()
	}
}

func TestP15TheSameFilesOnAnotherDisk(t *testing.T) {
	r := rand.New(rand.NewSource(15))
	for range 20 {
		p := newPair(t, plenty)
		values := someValues(r)
		for i := range 80 {
			p.do(someCall(r, i, values))
		}
		p.do(flush)
		// Just as many bytes as the files have: Open needs no more.
		d := copied(t, p.d, p.d.Size())
		q := &pair{t: t, d: d, s: open(t, d), m: &slow{p.m.flushed.clone(), p.m.flushed.clone()}}
		q.same()
		if !maps.Equal(files(t, d), files(t, p.d)) {
			t.Errorf("Open has changed a file")
		}
		// On the other disk what is done next is the same too.
		d = copied(t, p.d, plenty)
		q = &pair{t: t, d: d, s: open(t, d), m: &slow{p.m.flushed.clone(), p.m.flushed.clone()}}
		for i := range 20 {
			q.do(someCall(r, 80+i, values))
		}
		q.same()
		p.same()
	}
}

func TestP15OpenOfADeadDisk(t *testing.T) {
	p := newPair(t, plenty, put("a", 1, "x"), flush)
	p.d.Arm(1)
	p.d.Sync(p.d.Names()[0])
	if s, e := store.Open(p.d); s != nil || e != api.ErrDead {
		t.Errorf("Open of a dead disk: %d", e)
	}
	p.d.Crash(nil)
	p.do(reopen)
	p.same()
}

func TestP16KeysValuesAndStampsAtTheirBounds(t *testing.T) {
	for _, c := range []struct {
		call call
		want api.Errno
	}{
		{put("", 1, ""), api.ErrKey}, {put(longKey+"k", 1, ""), api.ErrKey}, {put(strings.Repeat("ä", 33), 1, ""), api.ErrKey},
		{put("k", 1, ""), api.OK}, {put(longKey, 1, ""), api.OK}, {put("\x00", 1, "\x00"), api.OK}, {put("\xff", 1, "\xff"), api.OK},
		{put("k", 1, longest), api.OK}, {put("k", 1, longest+"x"), api.ErrSize}, {put("k", 1, longest+longest), api.ErrSize},
		{put("k", 0, ""), api.OK}, {put("k", maxStamp, ""), api.OK}, {put("k", -1, ""), api.ErrStamp}, {put("k", maxStamp+1, ""), api.ErrStamp},
		{put("k", math.MinInt, ""), api.ErrStamp}, {put("k", math.MaxInt, ""), api.ErrStamp},
		{del("", 1), api.ErrKey}, {del(longKey+"k", 1), api.ErrKey}, {del("k", 1), api.OK}, {del(longKey, 1), api.OK},
		{del("k", 0), api.OK}, {del("k", maxStamp), api.OK}, {del("k", -1), api.ErrStamp}, {del("k", maxStamp+1), api.ErrStamp},
		// Of several errors, the first.
		{put("", -1, longest+"x"), api.ErrKey}, {put("k", -1, longest+"x"), api.ErrSize}, {del("", -1), api.ErrKey},
	} {
		p := newPair(t, plenty, put("a", 5, "v"), flush, put("b", 6, "w"))
		p.both(c.want, c.call)
		p.same()
		if c.want != api.OK {
			p.do(reopen, compact) // what was refused is not pending
		}
		p.do(flush, reopen)
		p.same()
	}
}

// Ways for a version to be there: pending, flushed, and opened anew.
var waysToBe = [][]call{{}, {flush}, {flush, reopen}, {flush, compact}, {flush, compact, reopen}}

// above: what a call answers whose stamp must be above the last one.
func above(last int, stamp int) api.Errno {
	if stamp <= last {
		return api.ErrStamp
	}
	return api.OK
}

func TestP16AStampMustBeAboveThoseOfItsKey(t *testing.T) {
	for _, way := range waysToBe {
		for _, newest := range []call{put("k", 10, "v"), del("k", 10)} {
			for _, stamp := range []int{0, 4, 5, 6, 9, 10, 11, maxStamp} {
				for _, c := range []call{put("k", stamp, "new"), del("k", stamp)} {
					p := newPair(t, plenty, put("j", 99, ""), put("k", 5, "u"), newest, put("l", 99, ""))
					p.do(way...)
					p.both(above(10, stamp), c)
					p.same()
				}
			}
		}
	}
}

func TestP16AStampMustBeAboveTheWatermark(t *testing.T) {
	for _, way := range waysToBe {
		for _, stamp := range []int{0, 9, 10, 11} {
			for _, c := range []call{put("k", stamp, "new"), del("k", stamp), put("new", stamp, ""), del("new", stamp)} {
				p := newPair(t, plenty, put("k", 5, "u"), raise(10))
				p.do(way...)
				p.both(above(10, stamp), c)
				p.same()
			}
		}
	}
}

// A key all of whose versions are dropped may be used again right above the
// watermark.
func TestP16AKeyThatWasDroppedComesAgain(t *testing.T) {
	p := newPair(t, plenty, put("k", 5, "u"), del("k", 6), put("l", 6, "v"), raise(8), flush, compact)
	p.both(api.ErrStamp, put("k", 8, "new"))
	p.both(api.OK, put("k", 9, "new"))
	p.same()
	p.do(flush, reopen, raise(9), flush, compact)
	p.same()
}

// Arm(1) lets the disk die at the first changing call.
func TestP16PutDeleteGetAtAndRaiseChangeNoFile(t *testing.T) {
	p := newPair(t, plenty, put("k", 5, "u"), flush)
	before := files(t, p.d)
	p.d.Arm(1)
	p.do(put("k", 6, "v"), del("l", 6), put("", 1, ""), raise(3), raise(2))
	p.same()
	if !maps.Equal(before, files(t, p.d)) {
		t.Errorf("a file has changed")
	}
	if e := p.d.Sync(p.d.Names()[0]); e != api.ErrDead {
		t.Errorf("a changing call was done: the next one answers %d", e)
	}
}

func TestP17GetAtAtTheEdges(t *testing.T) {
	for _, way := range waysToBe {
		p := newPair(t, plenty, put("k", 0, "zero"), put("k", 7, ""), del("k", 9), put("k", maxStamp, "last"), del("g", 3), put(longKey, 4, longest), put("\x00", 4, "nul"))
		p.do(way...)
		p.same()
		for _, c := range []struct {
			key   string
			stamp int
			want  string
			there bool
			e     api.Errno
		}{
			{"k", 0, "zero", true, api.OK}, {"k", 6, "zero", true, api.OK}, {"k", 7, "", true, api.OK}, {"k", 8, "", true, api.OK},
			{"k", 9, "", false, api.OK}, {"k", maxStamp - 1, "", false, api.OK}, {"k", maxStamp, "last", true, api.OK},
			{"k", math.MaxInt, "last", true, api.OK}, {"k", -1, "", false, api.ErrStamp}, {"k", math.MinInt, "", false, api.ErrStamp},
			{"g", 2, "", false, api.OK}, {"g", 3, "", false, api.OK}, {"not there", 3, "", false, api.OK},
			{longKey, 4, longest, true, api.OK}, {longKey[1:], 4, "", false, api.OK}, {longKey + "k", 4, "", false, api.ErrKey},
			{"", 4, "", false, api.ErrKey}, {"", -1, "", false, api.ErrKey}, {"\x00", 4, "nul", true, api.OK}, {"\x00\x00", 4, "", false, api.OK},
		} {
			if v, there, e := p.s.GetAt(c.key, c.stamp); v != c.want || there != c.there || e != c.e {
				t.Errorf("%v: GetAt(%.9q, %d) = %.9q, %t, %d, want %.9q, %t, %d", way, c.key, c.stamp, v, there, e, c.want, c.there, c.e)
			}
		}
	}
}

func TestP17GetAtBelowAtAndAboveTheWatermark(t *testing.T) {
	for _, way := range waysToBe {
		p := newPair(t, plenty, put("k", 3, "a"), put("k", 8, "b"), put("l", 12, "c"), raise(10))
		p.do(way...)
		for stamp := range 14 {
			want := api.OK
			if stamp < 10 {
				want = api.ErrStamp
			}
			if _, _, e := p.s.GetAt("k", stamp); e != want {
				t.Errorf("GetAt at %d: %d, want %d", stamp, e, want)
			}
			if _, _, e := p.s.GetAt("", stamp); e != api.ErrKey {
				t.Errorf("GetAt of no key at %d: %d", stamp, e)
			}
		}
		p.same()
	}
}

func TestP18RaiseAtTheEdges(t *testing.T) {
	p := newPair(t, plenty)
	for _, c := range []struct {
		stamp int
		want  api.Errno
	}{
		{-2, api.ErrStamp}, {math.MinInt, api.ErrStamp}, {-1, api.OK}, {maxStamp + 1, api.ErrStamp}, {math.MaxInt, api.ErrStamp},
		{0, api.OK}, {-1, api.ErrStamp}, {0, api.OK}, {5, api.OK}, {4, api.ErrStamp}, {maxStamp, api.OK}, {maxStamp - 1, api.ErrStamp}, {maxStamp, api.OK},
	} {
		p.both(c.want, raise(c.stamp))
		p.same()
	}
	p.both(api.ErrStamp, put("k", maxStamp, ""))
}

func TestP18RaiseIsPendingOnlyIfTheWatermarkWasLower(t *testing.T) {
	p := newPair(t, plenty)
	p.both(api.OK, raise(-1))
	p.both(api.OK, compact)
	p.both(api.OK, raise(7))
	p.both(api.ErrPending, compact)
	p.both(api.OK, raise(7))
	p.both(api.ErrStamp, raise(6))
	p.both(api.ErrPending, compact)
	p.both(api.OK, flush)
	p.both(api.OK, compact)
	p.both(api.OK, raise(7))
	p.both(api.OK, compact)
	p.both(api.ErrStamp, raise(6))
	p.both(api.OK, compact)
	p.do(reopen)
	p.both(api.OK, raise(7))
	p.both(api.OK, compact)
}

func TestP19FlushTwiceIsFlushOnce(t *testing.T) {
	p := newPair(t, plenty, put("k", 3, "a"), raise(2), flush)
	before := files(t, p.d)
	p.do(flush, flush)
	if !maps.Equal(before, files(t, p.d)) {
		t.Errorf("a file has changed, with nothing pending")
	}
	p.same()
}

// Values much alike, and values that are not: over many blocks, of many lengths.
func TestP19ManyVersionsOfFewKeysAndFewOfMany(t *testing.T) {
	r := rand.New(rand.NewSource(19))
	for _, c := range []struct{ keys, versions, size int }{
		{1, 1, 4096}, {1, 300, 20}, {3, 100, 300}, {1, 60, 4096}, {200, 1, 10}, {200, 3, 0}, {63, 1, 0}, {64, 1, 0}, {65, 1, 0}, {1, 64, 3}, {1, 65, 3}, {8, 8, 1000},
	} {
		for _, like := range []bool{false, true} {
			p := newPair(t, plenty)
			value := noise(r, c.size)
			for i := range c.versions {
				for k := range c.keys {
					if value = edited(r, value); !like {
						value = noise(r, c.size)
					}
					p.do(put(fmt.Sprint("key", k), i, value))
				}
				if i == c.versions/2 || i == c.versions/2+1 {
					p.do(flush)
				}
				if len(p.m.now.versions) > 60 && c.size >= 1000 && !like {
					break // there is no room for more
				}
			}
			p.do(flush)
			p.same()
			p.do(reopen)
			p.same()
			p.do(raise(c.versions/2), flush, compact)
			p.same()
			p.do(reopen)
			p.same()
		}
	}
}

// Many calls at random, held to the slow store.
func TestP15ToP20ManyCalls(t *testing.T) {
	r := rand.New(rand.NewSource(20))
	for range 60 {
		p := newPair(t, plenty)
		values := someValues(r)
		for i := range 150 {
			p.do(someCall(r, i, values))
			if r.Intn(20) == 0 {
				p.same()
			}
		}
		p.same()
	}
}

// takes: how many bytes the files have behind these calls and a Flush.
func takes(t *testing.T, calls ...call) int {
	t.Helper()
	p := newPair(t, plenty, calls...)
	p.do(flush)
	p.same()
	return p.d.Size()
}

// Values that are much alike take little room, flushed together or one by one,
// and even if the key is gone in between.
func TestElderValuesAreKeptAsChanges(t *testing.T) {
	r := rand.New(rand.NewSource(3))
	for _, between := range [][]call{nil, {flush}, {del("k", 1)}, {flush, del("k", 1), flush}} {
		var calls []call
		value := noise(r, 1000)
		for i := range 100 {
			at := r.Intn(1000)
			value = value[:at] + noise(r, 1) + value[at+1:]
			calls = append(calls, put("k", 2*i, value))
			for _, c := range between {
				c.stamp = 2*i + 1
				calls = append(calls, c)
			}
		}
		if n := takes(t, calls...); n > 100*1000/5 {
			t.Errorf("100 values of 1000 bytes, each but for one byte the same as the last, with %v in between: %d bytes", between, n)
		}
	}
}

// A value is kept as a change only if that is shorter, and blocks are filled,
// whatever stands ahead of them. Beside its body, a record has six or seven
// bytes here.
func TestAValueTakesLittleMoreThanItsBytes(t *testing.T) {
	r := rand.New(rand.NewSource(4))
	for _, long := range []int{0, 20} {
		var calls []call
		size := 0
		for i := range 200 {
			n := 1
			if i >= 200-long {
				n = 3000
			}
			calls = append(calls, put("k", i, noise(r, n)))
			size += n
		}
		if n := takes(t, calls...); n > size+200*7+long*10+50 {
			t.Errorf("values of %d bytes, %d of them long, take %d", size, long, n)
		}
	}
}

func TestP20CompactWithSomethingPending(t *testing.T) {
	for _, c := range []call{put("k", 9, "x"), del("k", 9), put("new", 9, ""), raise(5)} {
		p := newPair(t, plenty, put("k", 3, "a"), put("k", 4, "b"), raise(4), flush)
		p.do(c)
		before := files(t, p.d)
		p.both(api.ErrPending, compact)
		if !maps.Equal(before, files(t, p.d)) {
			t.Errorf("a file has changed")
		}
		p.same()
		p.both(api.OK, flush)
		p.both(api.OK, compact)
		p.same()
	}
}

func TestP20CompactDropsWhatNoGetAtCanTell(t *testing.T) {
	versions := []call{put("k", 2, longest), put("k", 4, "b"), del("k", 6), put("k", 8, longest), del("k", 10), put("j", 5, "x"), put("l", 5, "x")}
	// With the watermark at each stamp, these versions of "k" are left.
	for w, left := range [][]int{
		0: {2, 4, 6, 8, 10}, 1: {2, 4, 6, 8, 10}, 2: {2, 4, 6, 8, 10}, 3: {2, 4, 6, 8, 10}, 4: {4, 6, 8, 10}, 5: {4, 6, 8, 10},
		6: {8, 10}, 7: {8, 10}, 8: {8, 10}, 9: {8, 10}, 10: {}, 11: {},
	} {
		p := newPair(t, plenty, versions...)
		p.do(raise(w), flush, compact)
		var stamps []int
		for _, v := range p.m.now.versions {
			if v.key == "k" {
				stamps = append(stamps, v.stamp)
			}
		}
		if !slices.Equal(stamps, left) {
			t.Fatalf("with the watermark %d the slow store keeps %d, want %d", w, stamps, left)
		}
		p.same()
		p.do(reopen)
		p.same()
		// What was dropped takes no room: a long value is told by the bytes.
		long := 0
		for _, stamp := range left {
			if stamp == 2 || stamp == 8 {
				long++
			}
		}
		if has := p.d.Size() / len(longest); has != long {
			t.Errorf("with the watermark %d the files have %d bytes", w, p.d.Size())
		}
	}
}

// shapes: calls that make stores whose bytes stand badly to their versions.
func shapes() map[string][]call {
	r := rand.New(rand.NewSource(8))
	m := map[string][]call{"nothing": nil, "only a watermark": {raise(maxStamp)}}
	add := func(name string, n int, c func(i int) call) {
		for i := range n {
			m[name] = append(m[name], c(i))
		}
	}
	add("short keys, no values", 256, func(i int) call { return put(string([]byte{byte(i)}), maxStamp, "") })
	add("long keys, no values", 500, func(i int) call { return put(noise(r, 64), maxStamp-i, "") })
	add("long keys, gone", 500, func(i int) call { return del(noise(r, 64), maxStamp-i) })
	add("one key, no values", 1000, func(i int) call { return put("k", maxStamp-1000+i, "") })
	add("one key, gone and back", 1000, func(i int) call { return []call{put("k", i, noise(r, 9)), del("k", i)}[i%2] })
	add("long values", 25, func(i int) call { return put(noise(r, 64), i, noise(r, 4096)) })
	add("long values of one key", 25, func(i int) call { return put("k", i, noise(r, 4096)) })
	add("long values alike", 25, func(i int) call { return put("k", i, longest[:4000+i]) })
	add("values of half a block", 25, func(i int) call { return put(fmt.Sprint(i), i, noise(r, 4095)) })
	add("values alike", 500, func(i int) call { return put("k", i, longest[:100]+fmt.Sprint(i)) })
	add("five bytes alike", 500, func(i int) call { return put("k", i, "abcde") })
	add("short and long values", 60, func(i int) call { return put("k", i, noise(r, i%2*4000)) })
	return m
}

func TestP20HowManyBytesTheFilesHaveBehindACompact(t *testing.T) {
	for name, calls := range shapes() {
		p := newPair(t, plenty, calls...)
		p.do(flush, compact) // do holds them to the bound behind each Compact
		if name == "nothing" || name == "only a watermark" {
			if p.d.Size() > 1024 {
				t.Errorf("%s: %d bytes", name, p.d.Size())
			}
			continue
		}
		p.do(raise(max(p.m.now.versions[len(p.m.now.versions)/2].stamp, p.m.now.watermark)), flush, compact)
		p.same()
		p.do(raise(maxStamp), flush, compact)
		p.same()
	}
}

func TestP20ASecondCompactChangesNoFile(t *testing.T) {
	r := rand.New(rand.NewSource(21))
	for name, calls := range shapes() {
		p := newPair(t, plenty, calls...)
		p.do(flush)
		for range 4 {
			p.do(compact)
			before := files(t, p.d)
			p.d.Arm(1) // not even by a changing call
			p.do(compact, compact)
			p.d.Arm(0)
			if !maps.Equal(before, files(t, p.d)) {
				t.Fatalf("%s: a second Compact has changed a file", name)
			}
			p.do(reopen, compact)
			if !maps.Equal(before, files(t, p.d)) {
				t.Fatalf("%s: a Compact behind Open has changed a file", name)
			}
			w := p.m.now.watermark
			p.do(put("k", maxStamp, "more"), raise(w+r.Intn(maxStamp-w+1)), flush)
		}
	}
}

// tooSmall: a store on a disk with room for no more than it has, so that what
// is done next finds none.
func tooSmall(t *testing.T, calls ...call) *pair {
	t.Helper()
	p := newPair(t, plenty, calls...)
	p.do(flush)
	d := copied(t, p.d, p.d.Size())
	return &pair{t: t, d: d, s: open(t, d), m: p.m}
}

func TestP19AFullDiskLeavesAllAsItWas(t *testing.T) {
	for name, calls := range shapes() {
		if name == "nothing" || name == "only a watermark" {
			continue
		}
		p := tooSmall(t, calls...)
		before := files(t, p.d)
		for i, c := range []call{put("new", maxStamp, longest), del("other", maxStamp), raise(maxStamp)} {
			p.do(c)
			p.answers(api.ErrFull, flush)
			if !maps.Equal(before, files(t, p.d)) {
				t.Fatalf("%s: a Flush without room has changed a file", name)
			}
			p.answers(api.ErrPending, compact) // it is still pending
			if i < 2 && len(calls) < 100 {
				p.same()
			}
		}
		p.same()
		p.do(reopen) // what was not flushed is gone
		p.same()
		p.do(raise(maxStamp))
		p.answers(api.ErrFull, flush)
		p.answers(api.ErrPending, compact) // a watermark alone is still pending too
	}
}

func TestP20AFullDiskLeavesAllAsItWas(t *testing.T) {
	calls := []call{put("k", 2, longest), put("k", 4, strings.ToUpper(longest)), put("l", 5, longest), raise(4)}
	p := tooSmall(t, calls...)
	before := files(t, p.d)
	for range 2 {
		p.answers(api.ErrFull, compact)
		if !maps.Equal(before, files(t, p.d)) {
			t.Fatalf("a Compact without room has changed a file")
		}
		p.same()
		p.answers(api.OK, reopen)
		p.answers(api.OK, flush) // nothing is pending
		p.same()
	}
}

// What was begun is taken away again: the disk may die at that too.
func TestP19ADeathOnAFullDisk(t *testing.T) {
	r := rand.New(rand.NewSource(5))
	died := 0
	for n := 1; n < 10; n++ {
		p := newPair(t, 40000)
		for _, key := range []string{"a", "b", "c", "d", "e", "f"} {
			p.do(put(key, 1, noise(r, 4000)))
		}
		p.do(flush, put("d", 2, "x"))
		p.d.Arm(n)
		e := p.s.Flush()
		if dead := len(p.d.Names()) == 0; dead != (e == api.ErrDead) || !dead && e != api.ErrFull {
			t.Errorf("Arm(%d): Flush: %d, and the disk is dead: %t", n, e, dead)
		}
		if e == api.ErrDead {
			died++
			p.answers(api.ErrDead, put("d", 3, ""))
			p.d.Crash([]int{9999, 9999})
			p.do(reopen)
		}
		p.same()
	}
	if died < 2 {
		t.Errorf("the disk died at %d calls", died)
	}
}

// On disks of each size: what was flushed is there, and what was not is not.
func TestP19DisksOfManySizes(t *testing.T) {
	for capacity := range 700 {
		p := newPair(t, capacity)
		for i := range 12 {
			p.do(put(fmt.Sprint("k", i%3), i, longest[i:3*i]))
			switch e := p.s.Flush(); e {
			case api.OK:
				flush.slowly(p.m)
			case api.ErrFull:
			default:
				t.Fatalf("Flush: %d", e)
			}
			if i%5 == 4 {
				p.same()
				p.do(reopen)
			}
			p.same()
		}
	}
}

// room: the capacity that P22 asks for.
func room(calls []call) int {
	n := 4096 + 256 // with the Open of newPair
	for _, c := range calls {
		n += 256 + 8*(len(c.key)+len(c.value))
	}
	return n
}

func TestP22ADiskWithJustTheRoomThatIsAskedFor(t *testing.T) {
	for _, calls := range shapes() {
		for _, n := range []int{0, 1, 2, 3, 10, 63, 64, 65, 128, len(calls)} {
			some := slices.Clone(calls[:min(n, len(calls))])
			some = append(some, flush, compact, raise(maxStamp), flush, compact, reopen)
			if room(some) > plenty {
				continue
			}
			for i := range some {
				if some[i].what != "Put" && some[i].what != "Delete" {
					newPair(t, room(some[:i+1]), some[:i+1]...)
				}
			}
			newPair(t, room(some), some...).same()
		}
	}
}

// A Flush behind each Put, and all calls at random: at each the disk has just
// the room for as many calls.
func TestP22ManyCallsWithJustTheRoom(t *testing.T) {
	r := rand.New(rand.NewSource(22))
	for _, size := range []int{0, 1, 20, 300} {
		var calls []call
		for i := range 40 {
			calls = append(calls, put(noise(r, 1+r.Intn(1+size/5)), i, noise(r, size)), flush)
			newPair(t, room(calls), calls...)
		}
	}
	for range 20 {
		var calls []call
		values := someValues(r)
		for i := range 60 {
			calls = append(calls, someCall(r, i, values))
			if room(calls) <= plenty {
				newPair(t, room(calls), calls...)
			}
		}
	}
}

func TestP22AStoreOnAFullDiskAnswersAllGetAt(t *testing.T) {
	for name, calls := range shapes() {
		p := tooSmall(t, calls...)
		if p.d.Append("more", "x") != api.ErrFull {
			t.Fatalf("%s: the disk is not full", name)
		}
		p.same()
		p.do(reopen)
		p.same()
	}
}

// dies lets the disk die in a Flush of a store that has "k" flushed and "l"
// pending.
func dies(t *testing.T) *pair {
	t.Helper()
	p := newPair(t, plenty, put("k", 3, "a"), flush, put("l", 4, "b"))
	p.d.Arm(1)
	p.answers(api.ErrDead, flush)
	return p
}

// allDead holds all calls of a store that has met a dead disk to ErrDead, which
// comes ahead of all other errors.
func (p *pair) allDead() {
	p.t.Helper()
	for _, c := range []call{put("k", maxStamp, ""), put("", -1, longest+"x"), del("k", maxStamp), del("", -1), raise(maxStamp), raise(-2), flush, compact} {
		if _, e := c.on(p.d, p.s); e != api.ErrDead {
			p.t.Fatalf("%v: %v: %d, want ErrDead", p.tail(), c, e)
		}
	}
	for _, key := range []string{"k", "l", "not there", ""} {
		for _, stamp := range []int{maxStamp, -1} {
			if v, there, e := p.s.GetAt(key, stamp); v != "" || there || e != api.ErrDead {
				p.t.Fatalf("%v: GetAt(%q, %d) = %q, %t, %d, want ErrDead", p.tail(), key, stamp, v, there, e)
			}
		}
	}
}

func TestP16ToP20AStoreThatHasMetADeadDisk(t *testing.T) {
	for _, crash := range []bool{false, true} {
		p := dies(t)
		if crash {
			p.d.Crash(nil)
		}
		p.allDead()
		p.d.Crash(nil)
		p.do(reopen)
		p.same()
	}
}

// A store that has not met the dead disk does what needs no disk.
func TestP16AStoreThatHasNotMetTheDeadDisk(t *testing.T) {
	kill := func() *pair {
		p := newPair(t, plenty, put("k", 3, "a"), put("k", 4, "b"), flush, put("l", 4, "b"))
		p.d.Arm(1)
		p.d.Sync(p.d.Names()[0])
		p.do(put("k", 9, "c"), put("k", 9, "d"), del("m", 4), raise(1), raise(0))
		if how := p.at("k", 9) + p.at("not there", 3); how != "" {
			t.Error(how)
		}
		return p
	}
	p := kill()
	for range 2 {
		if v, there, e := p.s.GetAt("k", 3); v != "" || there || e != api.ErrDead {
			t.Errorf("GetAt = %q, %t, %d, want ErrDead", v, there, e)
		}
		p.d.Crash(nil)
	}
	p.answers(api.ErrDead, put("k", 10, "c"))
	p = kill()
	p.answers(api.ErrDead, flush)
	p.d.Crash(nil)
	p.answers(api.ErrDead, put("k", 10, "c"))
	p = newPair(t, plenty, put("k", 3, "a"), raise(3), flush)
	p.d.Arm(1)
	p.d.Sync(p.d.Names()[0])
	p.answers(api.ErrDead, compact)
	p.d.Crash(nil)
	p.answers(api.ErrDead, raise(5))
}

func TestP2StoresOfDifferentDisksDoNotTouchOneAnother(t *testing.T) {
	r := rand.New(rand.NewSource(2))
	a, b := newPair(t, plenty), newPair(t, plenty)
	for i := range 200 {
		a.do(someCall(r, i, someValues(r)))
		b.do(someCall(r, i, someValues(r)))
	}
	a.same()
	b.same()
}

// lent: a text and the bytes that it is made of.
func lent(s string) (string, []byte) {
	b := []byte(s)
	return unsafe.String(&b[0], len(b)), b
}

func TestP2WhatIsHandedInIsNotKept(t *testing.T) {
	for _, way := range waysToBe {
		key, keyBytes := lent("key")
		value, valueBytes := lent("value")
		p := newPair(t, plenty)
		p.s.Put(key, 5, value)
		key2, key2Bytes := lent("kez")
		p.s.Delete(key2, 5)
		p.s.GetAt(key, 5)
		copy(keyBytes, "xxx")
		copy(key2Bytes, "xxx")
		copy(valueBytes, "xxxxx")
		p.m.add(version{key: "key", stamp: 5, value: "value"})
		p.m.add(version{key: "kez", stamp: 5, gone: true})
		p.do(way...)
		p.same()
		p.both(api.ErrStamp, put("key", 5, ""))
		p.both(api.ErrStamp, put("kez", 5, ""))
		p.both(api.OK, put("xxx", 5, ""))
	}
}

func TestP2AnswersAreNewMemory(t *testing.T) {
	for _, way := range waysToBe {
		p := newPair(t, plenty, put("k", 5, "older value"), put("k", 6, "newer value"))
		p.do(way...)
		for range 2 {
			for stamp := 5; stamp <= 6; stamp++ {
				v, _, _ := p.s.GetAt("k", stamp)
				copy(unsafe.Slice(unsafe.StringData(v), len(v)), "#####")
				p.same()
			}
		}
	}
}
