package store_test

import (
	"math/rand"
	"slices"
	"testing"

	"strata/api"
)

// someKeep: how many bytes Crash leaves of each file.
func someKeep(r *rand.Rand) []int {
	return []int{r.Intn(10) - 1, r.Intn(10000) - 1, r.Intn(10000)}[:r.Intn(4)]
}

// keeps: of so many bytes that are not synced a Crash is to leave none, some
// (each number, if they are few) and all.
func keeps(loose int) []int {
	step := 1
	if loose > 300 {
		step = loose / 10
	}
	var l []int
	for n := 0; n < loose; n += step {
		l = append(l, n)
	}
	return append(l, loose)
}

// crash lets the disk come up again, with so many bytes of each file that are
// not synced.
func (p *pair) crash(keep int) { p.d.Crash([]int{keep, keep, keep}) }

// diesIn does a call, at whose n-th changing call the disk is to die, and says
// whether it did. If so, the slow store has not heard of the call.
func (p *pair) diesIn(c call, n int) bool {
	p.t.Helper()
	p.d.Arm(n)
	p.done = append(p.done, c)
	s, e := c.on(p.d, p.s)
	if _, read := p.d.Read("x"); (read == api.ErrDead) != (e == api.ErrDead) {
		p.t.Fatalf("%v: the last answers %d, and the disk %d", p.tail(), e, read)
	}
	if e != api.ErrDead {
		if want := c.slowly(p.m); e != want {
			p.t.Fatalf("%v: the last answers %d, want %d", p.tail(), e, want)
		}
		p.s = s
		p.d.Arm(0)
		return false
	}
	if c == reopen {
		if s != nil {
			p.t.Fatalf("%v: ErrDead, and a store", p.tail())
		}
		return true
	}
	p.allDead()
	return true
}

// rises opens the store behind a death in a call and a Crash. It has what the
// document asks for, and the slow store has it too from now on.
func (p *pair) rises(c call) {
	p.t.Helper()
	p.answers(api.OK, reopen)
	if l := p.d.Names(); len(l) > 1 {
		p.t.Fatalf("%v: Open leaves the files %q", p.tail(), l)
	}
	would := p.m.now
	p.m = &slow{p.m.flushed.clone(), p.m.flushed.clone()}
	if c == flush && p.differs() != "" {
		p.m = &slow{would.clone(), would.clone()}
	}
	p.same()
}

// goesOn holds the store to the slow one in some calls more.
func (p *pair) goesOn() {
	p.t.Helper()
	p.do(compact, put("k", 3, ""), put("k", 1000, "later"), del("l", 1000), flush)
	p.same()
	p.do(compact, raise(1000), flush, compact, reopen)
	p.same()
}

// deaths does calls, and then one in which the disk dies, at each changing call
// of it, one after the other, and with each Crash. It tells how many these are.
func deaths(t *testing.T, last call, calls ...call) int {
	t.Helper()
	for n := 1; ; n++ {
		p := newPair(t, plenty, calls...)
		size := p.d.Size()
		if !p.diesIn(last, n) {
			p.same()
			p.goesOn()
			return n - 1
		}
		for _, keep := range keeps(p.d.Size() - size) {
			p := newPair(t, plenty, calls...)
			p.diesIn(last, n)
			p.crash(keep)
			p.allDead()
			p.rises(last)
			p.goesOn()
		}
	}
}

// large: values that take several blocks.
func large(stamp int) []call {
	r := rand.New(rand.NewSource(int64(stamp)))
	var l []call
	for _, key := range []string{"a", "b", "k", "l", "z"} {
		l = append(l, put(key, stamp, noise(r, 4000)), put(key, stamp+1, noise(r, 3)))
	}
	return l
}

func TestP21DeathInFlush(t *testing.T) {
	some := []call{put("a", 3, "x"), put("k", 5, "one value"), del("l", 4), raise(2)}
	more := []call{put("b", 4, "y"), put("k", 9, "one value more"), put("l", 7, "again"), raise(5)}
	for name, calls := range map[string][]call{
		"the first":                  some,
		"the first, of a watermark":  {raise(0)},
		"the first, of many":         large(1),
		"the second":                 slices.Concat(some, []call{flush}, more),
		"the second, of a watermark": slices.Concat(some, []call{flush, raise(4)}),
		"the second, of many":        slices.Concat(some, []call{flush}, large(10)),
		"behind a Compact":           slices.Concat(some, []call{raise(5), flush, compact}, more),
		"behind a Compact of all":    {del("k", 1), raise(1), flush, compact, put("k", 2, "back")},
		"behind an Open":             slices.Concat(large(1), []call{flush, reopen}, more),
	} {
		if n := deaths(t, flush, calls...); n < 3 {
			t.Errorf("%s: the disk dies at %d calls", name, n)
		}
	}
	if n := deaths(t, flush, slices.Concat(some, []call{flush})...); n != 0 {
		t.Errorf("nothing is pending, and the disk dies at %d calls", n)
	}
}

func TestP21DeathInCompact(t *testing.T) {
	some := []call{put("a", 3, "x"), put("k", 5, "one value"), put("k", 9, "one value more"), del("l", 4)}
	for name, calls := range map[string][]call{
		"of some":         slices.Concat(some, []call{raise(9), flush}),
		"of a gone one":   slices.Concat(some, []call{raise(4), flush}),
		"of all":          {put("k", 2, "x"), del("k", 3), del("l", 3), raise(3), flush},
		"of many":         slices.Concat(large(1), large(10), []call{raise(11), flush}),
		"behind an Open":  slices.Concat(large(1), []call{raise(2), flush, reopen}),
		"behind one more": slices.Concat(some, []call{raise(4), flush, compact, raise(9), flush}),
	} {
		if n := deaths(t, compact, calls...); n < 3 {
			t.Errorf("%s: the disk dies at %d calls", name, n)
		}
	}
	if n := deaths(t, compact, slices.Concat(some, []call{raise(2), flush})...); n != 0 {
		t.Errorf("nothing is dropped, and the disk dies at %d calls", n)
	}
}

// The disk dies in a call, and then, at each changing call, in the Open behind
// it: that changes nothing.
func TestP21DeathInOpen(t *testing.T) {
	some := []call{put("a", 3, "x"), put("k", 5, "one value")}
	died := 0
	for _, c := range []struct {
		last  call
		calls []call
	}{
		{flush, nil},
		{flush, some},
		{flush, slices.Concat(some, []call{flush, put("k", 9, "one value more"), raise(4)})},
		{flush, slices.Concat(some, []call{flush}, large(10))},
		{compact, slices.Concat(large(1), []call{raise(2), flush})},
	} {
		for n, dead := 1, true; dead; n++ {
			for _, keep := range []int{0, 1, 30, 9000, 1 << 20} {
				for m := 1; ; m++ {
					p := newPair(t, plenty, c.calls...)
					dead = p.diesIn(c.last, n)
					p.crash(keep)
					before := *p.m
					again := p.diesIn(reopen, m)
					if again {
						died++
						p.crash(keep / 2)
					}
					p.m = &before
					p.rises(c.last)
					p.goesOn()
					if !again {
						break
					}
				}
			}
		}
	}
	if died < 20 {
		t.Errorf("the disk died in %d calls of Open", died)
	}
}

// A Crash of a disk that is not dead takes nothing away of what is flushed, and
// the store goes on with what is pending.
func TestP21ACrashWithoutADeath(t *testing.T) {
	p := newPair(t, plenty)
	p.crash(0)
	p.do(put("k", 5, "one"), put("l", 5, "more"))
	p.crash(0)
	p.do(flush, put("k", 9, "two"), raise(5))
	p.crash(0)
	p.same()
	p.do(flush, put("k", 10, "three"))
	p.crash(0)
	p.do(reopen)
	p.crash(0)
	p.same()
	p.do(raise(9), flush, compact)
	p.crash(0)
	p.same()
	p.do(reopen)
	p.same()
}

// Somebody has laid the files on another disk, and not synced them there: from
// the Open on they last.
func TestP21FilesThatWereNotSynced(t *testing.T) {
	p := newPair(t, plenty, append(large(1), raise(2), flush)...)
	laid := func() *pair {
		d := newDisk(t, plenty)
		for name, s := range files(t, p.d) {
			d.Append(name, s)
		}
		return &pair{t: t, d: d, s: open(t, d), m: &slow{p.m.flushed.clone(), p.m.flushed.clone()}}
	}
	for _, c := range []struct {
		last  call
		calls []call
	}{{flush, []call{put("k", 50, "new")}}, {compact, nil}, {flush, nil}} {
		for n, dead := 1, true; dead; n++ {
			q := laid()
			q.do(c.calls...)
			dead = q.diesIn(c.last, n)
			q.crash(0)
			q.rises(c.last)
			q.goesOn()
		}
	}
}

// survive does calls, lets the disk die at the n-th changing call of them, and
// does what is left of them behind a Crash. It says whether the disk died.
func (p *pair) survive(r *rand.Rand, n int, calls []call) bool {
	p.t.Helper()
	p.d.Arm(n)
	for i, c := range calls {
		before := *p.m
		want := c.slowly(p.m)
		p.done = append(p.done, c)
		s, e := c.on(p.d, p.s)
		if e == want {
			p.s = s
			continue
		}
		if e != api.ErrDead {
			p.t.Fatalf("%v: the last answers %d, want %d", p.tail(), e, want)
		}
		p.comeUp(r, c, before)
		p.do(calls[i+1:]...)
		p.same()
		return true
	}
	p.d.Arm(0)
	p.same()
	return false
}

// comeUp opens the store behind a death in a call, ahead of which the slow
// store was this one; Open may die too.
func (p *pair) comeUp(r *rand.Rand, c call, before slow) {
	p.t.Helper()
	if c != reopen {
		p.allDead()
	}
	p.d.Crash(someKeep(r))
	for most := 1; p.diesIn(reopen, 1+r.Intn(most)); most++ {
		p.d.Crash(someKeep(r))
	}
	p.m = &before
	p.rises(c)
}

func TestP21DeathAtEachChangingCall(t *testing.T) {
	r := rand.New(rand.NewSource(21))
	for range 12 {
		values := someValues(r)
		var calls []call
		for i := range 40 {
			calls = append(calls, someCall(r, i, values))
		}
		calls = append(calls, flush)
		n := 1
		for newPair(t, plenty).survive(r, n, calls) {
			n++
		}
		if n < 4 {
			t.Errorf("%v: the disk died at %d calls", calls, n-1)
		}
	}
}

// With just the room that P22 asks for, what a death leaves behind is no
// trouble.
func TestP22ADeathLeavesRoom(t *testing.T) {
	r := rand.New(rand.NewSource(23))
	var calls []call
	for i := range 12 {
		calls = append(calls, put("k", i, noise(r, 3000)), flush)
	}
	for n := 1; newPair(t, room(calls)).survive(r, n, calls); n++ {
	}
}
