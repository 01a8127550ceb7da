package store_test

import (
	"maps"
	"math/rand"
	"slices"
	"testing"

	"strata/api"
	"strata/store"
)

// flip flips a byte of a file.
func (p *pair) flip(name string, at int, mask int) {
	p.t.Helper()
	if e := p.d.Flip(name, at, mask); e != api.OK {
		p.t.Fatalf("Flip(%q, %d, %d): %d", name, at, mask, e)
	}
}

// isCorrupt does a call, and says whether the store answers ErrCorrupt: then no
// error of its own applies, and no file may be changed. Else it must answer what
// the slow store does.
func (p *pair) isCorrupt(c call) bool {
	p.t.Helper()
	before, slowly := files(p.t, p.d), &slow{p.m.now.clone(), p.m.flushed.clone()}
	want := c.slowly(slowly)
	p.done = append(p.done, c)
	s, e := c.on(p.d, p.s)
	if e == api.ErrCorrupt && want == api.OK {
		if !maps.Equal(before, files(p.t, p.d)) || c == reopen && s != nil {
			p.t.Fatalf("%v: ErrCorrupt, and something has changed", p.tail())
		}
		return true
	}
	if e != want {
		p.t.Fatalf("%v: the last answers %d, want %d", p.tail(), e, want)
	}
	p.s, p.m = s, slowly
	if c == compact && e == api.OK && p.d.Size() > p.m.most() {
		p.t.Fatalf("%v: the last has dropped too little", p.tail())
	}
	return false
}

// tells says how many answers of GetAt are true; all others must be ErrCorrupt,
// and none of a key that has no version, or where another error applies.
func (p *pair) tells() int {
	p.t.Helper()
	n := 0
	for _, v := range p.m.now.versions {
		for stamp := v.stamp - 1; stamp <= v.stamp+1; stamp++ {
			s, there, e := p.s.GetAt(v.key, stamp)
			if e == api.ErrCorrupt && s == "" && !there && stamp >= max(0, p.m.now.watermark) {
				continue
			}
			if how := p.at(v.key, stamp); how != "" {
				p.t.Fatalf("%v: %s", p.tail(), how)
			}
			if stamp == v.stamp {
				n++
			}
		}
	}
	return n
}

// flips does calls, flips a byte behind them, and does others: each answers
// ErrCorrupt and changes nothing, or what it would without that. Behind that
// the byte is flipped back, and nothing is missing.
func flips(t *testing.T, calls []call, name string, at int, mask int, others ...call) {
	t.Helper()
	p := newPair(t, plenty, calls...)
	p.flip(name, at, mask)
	p.tells()
	corrupt := false
	for _, c := range others {
		corrupt = p.isCorrupt(c) || corrupt
		p.tells()
	}
	if !corrupt {
		return
	}
	p.d.Crash(nil)
	p.flip(name, at, mask)
	p.same()
	p.goesOn()
}

// Behind an Open, a Flush or a Compact each byte is flipped.
func TestP21EachFlippedByte(t *testing.T) {
	some := []call{put("a", 3, "x"), put("k", 5, "one value"), flush, put("k", 9, "one value more"), del("k", 12), put("l", 4, "")}
	for name, calls := range map[string][]call{
		"Open":                   slices.Concat(some, []call{flush, raise(4), flush, reopen}),
		"Flush":                  slices.Concat(some, []call{raise(9), flush}),
		"Flush of a watermark":   {raise(0), flush},
		"Compact":                slices.Concat(some, []call{raise(9), flush, compact}),
		"Compact of all":         {put("k", 1, "x"), del("k", 2), raise(2), flush, compact},
		"Compact of nothing":     slices.Concat(some, []call{flush, compact}),
		"a Flush that is undone": slices.Concat(some, []call{flush, put("k", 20, "lost"), reopen}),
	} {
		for file, s := range files(t, newPair(t, plenty, calls...).d) {
			if s == "" {
				t.Errorf("%s: a file of no bytes", name)
			}
			for at := range len(s) {
				for _, mask := range []int{1, 2, 4, 8, 16, 32, 64, 128, 255, 1 + at%255} {
					flips(t, calls, file, at, mask, flush)
					flips(t, calls, file, at, mask, compact)
					flips(t, calls, file, at, mask, reopen)
					flips(t, calls, file, at, mask, put("k", 80, "new"), put("z", 80, "new"), compact, flush, raise(20), flush, compact)
				}
			}
		}
	}
}

// Several blocks, of many versions and of great ones.
func TestP21FlippedBytesOfSeveralBlocks(t *testing.T) {
	r := rand.New(rand.NewSource(24))
	calls := large(1)
	for i := range 80 {
		calls = append(calls, put("m", i, noise(r, i%3)))
	}
	calls = append(calls, raise(4), flush)
	p := newPair(t, plenty, calls...)
	for file, s := range files(t, p.d) {
		for at := 0; at < len(s); at += 2000 {
			flips(t, calls, file, at, 128, compact)
		}
		for range 15 {
			flips(t, calls, file, r.Intn(len(s)), 1+r.Intn(255), put("k", 200, "new"), flush, reopen, compact)
			flips(t, calls, file, len(s)-1-r.Intn(100), 1+r.Intn(255), raise(80), flush, reopen, compact)
		}
	}
}

// Open takes away what a death has left only where no byte is wrong.
func TestP21AFlippedByteBehindADeath(t *testing.T) {
	for at := range 40 {
		p := newPair(t, plenty, put("k", 5, "one"), flush, put("k", 9, "two"))
		p.diesIn(flush, 2)
		p.crash(1000)
		if l := p.d.Names(); len(l) != 2 {
			t.Fatalf("the death leaves the files %q", l)
		}
		size := len(files(t, p.d)["store"])
		p.flip("store", at%size, 1+at)
		if !p.isCorrupt(reopen) {
			t.Errorf("a wrong byte at %d is not found", at)
		}
		p.flip("store", at%size, 1+at)
		p.rises(flush)
		p.goesOn()
	}
}

// Where no byte is changed, nobody finds one.
func TestP21AFlipOfNoBits(t *testing.T) {
	p := newPair(t, plenty, append(large(1), raise(2), flush)...)
	for file, s := range files(t, p.d) {
		for at := 0; at < len(s); at += 97 {
			p.flip(file, at, 0)
		}
	}
	p.same()
	p.do(put("k", 5, ""), flush, compact, reopen)
	p.same()
}

// flipped: a store whose file has had a byte flipped.
func flipped(t *testing.T, p *pair, at int, mask int) *pair {
	t.Helper()
	d := copied(t, p.d, plenty)
	q := &pair{t: t, d: d, s: open(t, d), m: &slow{p.m.flushed.clone(), p.m.flushed.clone()}}
	q.flip(d.Names()[0], at, mask)
	return q
}

// A byte that is wrong in one block hides nothing of the others.
func TestAFlippedByteHidesOneBlock(t *testing.T) {
	r := rand.New(rand.NewSource(25))
	p := newPair(t, plenty)
	for i := range 20 {
		p.do(put(string([]byte{'a' + byte(i)}), 1, noise(r, 4000)))
	}
	p.do(flush)
	q := flipped(t, p, 10000, 1)
	if n := q.tells(); n < 14 || n == 20 {
		t.Errorf("with one byte flipped, %d of 20 answers of GetAt are true", n)
	}
	if s, e := store.Open(q.d); s != nil || e != api.ErrCorrupt {
		t.Errorf("Open: %d", e)
	}
}

// A byte that is wrong ahead of the place where the disk is full, or behind it,
// and a disk that dies at the first changing call.
func TestP21WhatStopsAFlushFirst(t *testing.T) {
	r := rand.New(rand.NewSource(26))
	p := newPair(t, plenty)
	for i := range 20 {
		p.do(put(string([]byte{'a' + byte(i)}), 1, noise(r, 4000)))
	}
	p.do(flush)
	for _, c := range []struct {
		at, arm, capacity int
		want              api.Errno
	}{
		{0, 0, plenty, api.ErrCorrupt}, {70000, 0, plenty, api.ErrCorrupt}, {0, 1, plenty, api.ErrCorrupt}, {70000, 1, plenty, api.ErrDead},
		{0, 0, p.d.Size(), api.ErrCorrupt}, {70000, 0, p.d.Size(), api.ErrFull}, {70000, 0, p.d.Size() + 20000, api.ErrFull},
	} {
		d := copied(t, p.d, c.capacity)
		s := open(t, d)
		s.Put("z", 1, "new")
		d.Flip(d.Names()[0], c.at, 1)
		before := files(t, d)
		d.Arm(c.arm)
		if e := s.Flush(); e != c.want {
			t.Errorf("%+v: Flush: %d", c, e)
		}
		d.Crash([]int{9, 9})
		if c.want != api.ErrDead && !maps.Equal(before, files(t, d)) {
			t.Errorf("%+v: a file has changed", c)
		}
	}
}
