package store_test

import (
	"maps"
	"math/rand"
	"testing"

	"strata/api"
	"strata/store"
)

// someKeep: how many bytes Crash leaves of each file.
func someKeep(r *rand.Rand) []int {
	return []int{r.Intn(10) - 1, r.Intn(10000) - 1, r.Intn(10000)}[:r.Intn(4)]
}

// survive does calls, lets the disk die at the n-th changing call of them, and
// does what is left of them behind a Crash. It says whether the disk died.
func (p *pair) survive(r *rand.Rand, n int, calls []call) bool {
	p.t.Helper()
	p.d.Arm(n)
	for i, c := range calls {
		before := *p.m
		want := c.slowly(p.m)
		p.done = append(p.done, c)
		s, e := c.on(p.d, p.s)
		if e == want {
			p.s = s
			continue
		}
		if e != api.ErrDead {
			p.t.Fatalf("%v: the last answers %d, want %d", p.tail(), e, want)
		}
		p.comeUp(r, c, before)
		p.do(calls[i+1:]...)
		p.same()
		return true
	}
	p.d.Arm(0)
	p.same()
	return false
}

// comeUp opens the store behind a death in a call, ahead of which the slow
// store was this one. Then the slow store has what the document asks for.
func (p *pair) comeUp(r *rand.Rand, c call, before slow) {
	p.t.Helper()
	if c != reopen {
		p.answers(api.ErrDead, flush)
	}
	p.d.Crash(someKeep(r))
	for most := 1; ; most++ {
		p.d.Arm(1 + r.Intn(most)) // Open may die too
		s, e := store.Open(p.d)
		if e == api.OK {
			p.s = s
			p.d.Arm(0)
			break
		}
		if s != nil || e != api.ErrDead || most > 50 {
			p.t.Fatalf("%v: Open: %d", p.tail(), e)
		}
		p.d.Crash(someKeep(r))
	}
	if l := p.d.Names(); len(l) > 1 {
		p.t.Fatalf("%v: Open leaves the files %q", p.tail(), l)
	}
	p.m = &slow{before.flushed.clone(), before.flushed.clone()}
	if c == flush && p.differs() != "" {
		p.m = &slow{before.now.clone(), before.now.clone()}
	}
	p.same()
}

func TestP21DeathAtEachChangingCall(t *testing.T) {
	r := rand.New(rand.NewSource(21))
	for range 12 {
		values := someValues(r)
		var calls []call
		for i := range 40 {
			calls = append(calls, someCall(r, i, values))
		}
		calls = append(calls, flush)
		n := 1
		for newPair(t, plenty).survive(r, n, calls) {
			n++
		}
		if n < 4 {
			t.Errorf("%v: the disk died at %d calls", calls, n-1)
		}
	}
}

// With just the room that P22 asks for, what a death leaves behind is no
// trouble.
func TestP22ADeathLeavesRoom(t *testing.T) {
	r := rand.New(rand.NewSource(23))
	var calls []call
	for i := range 12 {
		calls = append(calls, put("k", i, noise(r, 3000)), flush)
	}
	for n := 1; newPair(t, room(calls)).survive(r, n, calls); n++ {
	}
}

// flipped: a store whose file has had a byte flipped.
func flipped(t *testing.T, p *pair, at int, mask int) *pair {
	t.Helper()
	d := copied(t, p.d, plenty)
	q := &pair{t: t, d: d, s: open(t, d), m: &slow{p.m.flushed.clone(), p.m.flushed.clone()}}
	if e := d.Flip(d.Names()[0], at, mask); e != api.OK {
		t.Fatalf("Flip: %d", e)
	}
	return q
}

// trueOrCorrupt does a call on both, unless the store answers ErrCorrupt: then
// no file may be changed.
func (p *pair) trueOrCorrupt(c call) {
	p.t.Helper()
	before := files(p.t, p.d)
	p.done = append(p.done, c)
	s, e := c.on(p.d, p.s)
	if e == api.ErrCorrupt {
		if !maps.Equal(before, files(p.t, p.d)) || c == reopen && s != nil {
			p.t.Fatalf("%v: ErrCorrupt, and something has changed", p.tail())
		}
		return
	}
	if want := c.slowly(p.m); e != want {
		p.t.Fatalf("%v: the last answers %d, want %d", p.tail(), e, want)
	}
	p.s = s
}

// tells says how many answers of GetAt are true; all others must be ErrCorrupt.
func (p *pair) tells() int {
	p.t.Helper()
	n := 0
	for _, v := range p.m.now.versions {
		if s, there, e := p.s.GetAt(v.key, v.stamp); e == api.ErrCorrupt && s == "" && !there {
			continue
		}
		if how := p.at(v.key, v.stamp); how != "" {
			p.t.Fatalf("%v: %s", p.tail(), how)
		}
		n++
	}
	return n
}

func TestP21EachFlippedByte(t *testing.T) {
	r := rand.New(rand.NewSource(24))
	p := newPair(t, plenty, put("a", 3, "x"), put("k", 5, "one value"), flush, put("k", 9, "one value more"), del("k", 12), put("l", 4, noise(r, 30)))
	for i := range 70 {
		p.do(put("m", i, noise(r, i%3)))
	}
	p.do(flush, raise(4), flush)
	for at := range p.d.Size() {
		for _, mask := range []int{1 << (at % 8), 1 + r.Intn(255)} {
			q := flipped(t, p, at, mask)
			q.tells()
			q.trueOrCorrupt(compact)
			q.trueOrCorrupt(put("k", 80, "new"))
			q.trueOrCorrupt(flush)
			q.tells()
			q.trueOrCorrupt(reopen)
		}
	}
}

// A byte that is wrong in one block hides nothing of the others.
func TestAFlippedByteHidesOneBlock(t *testing.T) {
	r := rand.New(rand.NewSource(25))
	p := newPair(t, plenty)
	for i := range 20 {
		p.do(put(string([]byte{'a' + byte(i)}), 1, noise(r, 4000)))
	}
	p.do(flush)
	q := flipped(t, p, 10000, 1)
	if n := q.tells(); n < 14 || n == 20 {
		t.Errorf("with one byte flipped, %d of 20 answers of GetAt are true", n)
	}
	if s, e := store.Open(q.d); s != nil || e != api.ErrCorrupt {
		t.Errorf("Open: %d", e)
	}
}

// A byte that is wrong ahead of the place where the disk is full, or behind it,
// and a disk that dies at the first changing call.
func TestP21WhatStopsAFlushFirst(t *testing.T) {
	r := rand.New(rand.NewSource(26))
	p := newPair(t, plenty)
	for i := range 20 {
		p.do(put(string([]byte{'a' + byte(i)}), 1, noise(r, 4000)))
	}
	p.do(flush)
	for _, c := range []struct {
		at, arm, capacity int
		want              api.Errno
	}{
		{0, 0, plenty, api.ErrCorrupt}, {70000, 0, plenty, api.ErrCorrupt}, {0, 1, plenty, api.ErrCorrupt}, {70000, 1, plenty, api.ErrDead},
		{0, 0, p.d.Size(), api.ErrCorrupt}, {70000, 0, p.d.Size(), api.ErrFull}, {70000, 0, p.d.Size() + 20000, api.ErrFull},
	} {
		d := copied(t, p.d, c.capacity)
		s := open(t, d)
		s.Put("z", 1, "new")
		d.Flip(d.Names()[0], c.at, 1)
		before := files(t, d)
		d.Arm(c.arm)
		if e := s.Flush(); e != c.want {
			t.Errorf("%+v: Flush: %d", c, e)
		}
		d.Crash([]int{9, 9})
		if c.want != api.ErrDead && !maps.Equal(before, files(t, d)) {
			t.Errorf("%+v: a file has changed", c)
		}
	}
}
