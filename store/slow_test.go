package store_test

import (
	"fmt"
	"slices"
	"testing"

	"strata/api"
	"strata/disk"
	"strata/store"
)

// version: a version of a key, as the document tells it.
type version struct {
	key   string
	stamp int
	value string
	gone  bool
}

// state: what a store has, in a list that is gone through for each question.
type state struct {
	versions  []version
	watermark int
}

// slow: a store written from the document's words, on a disk that has room for
// all and never dies.
type slow struct {
	now, flushed state
}

func newSlow() *slow { return &slow{now: state{watermark: -1}, flushed: state{watermark: -1}} }

func (a state) clone() state { return state{slices.Clone(a.versions), a.watermark} }

func (m *slow) isPending() bool {
	return len(m.now.versions) != len(m.flushed.versions) || m.now.watermark != m.flushed.watermark
}

func (m *slow) add(v version) api.Errno {
	if len(v.key) < 1 || len(v.key) > 64 {
		return api.ErrKey
	}
	if len(v.value) > 4096 {
		return api.ErrSize
	}
	if v.stamp < 0 || v.stamp > 1099511627776 || v.stamp <= m.now.watermark {
		return api.ErrStamp
	}
	for _, other := range m.now.versions {
		if other.key == v.key && other.stamp >= v.stamp {
			return api.ErrStamp
		}
	}
	m.now.versions = append(m.now.versions, v)
	return api.OK
}

func (m *slow) getAt(key string, stamp int) (string, bool, api.Errno) {
	if len(key) < 1 || len(key) > 64 {
		return "", false, api.ErrKey
	}
	if stamp < m.now.watermark || stamp < 0 {
		return "", false, api.ErrStamp
	}
	at := version{stamp: -1, gone: true}
	for _, v := range m.now.versions {
		if v.key == key && v.stamp <= stamp && v.stamp > at.stamp {
			at = v
		}
	}
	return at.value, !at.gone, api.OK
}

func (m *slow) raise(stamp int) api.Errno {
	if stamp < m.now.watermark || stamp > 1099511627776 {
		return api.ErrStamp
	}
	m.now.watermark = stamp
	return api.OK
}

func (m *slow) compact() api.Errno {
	if m.isPending() {
		return api.ErrPending
	}
	floor := map[string]int{} // by key: the greatest stamp at or below the watermark
	for _, v := range m.now.versions {
		if n, there := floor[v.key]; v.stamp <= m.now.watermark && (!there || v.stamp > n) {
			floor[v.key] = v.stamp
		}
	}
	m.now.versions = slices.DeleteFunc(m.now.versions, func(v version) bool {
		n := floor[v.key]
		return v.stamp <= m.now.watermark && (v.stamp < n || v.gone)
	})
	m.flushed = m.now.clone()
	return api.OK
}

// most: how many bytes the files may have behind a Compact.
func (m *slow) most() int {
	n := 1024
	for _, v := range m.now.versions {
		n += 64 + 2*(len(v.key)+len(v.value))
	}
	return n
}

// call: a call of a store, kept to be done and shown.
type call struct {
	what  string
	key   string
	stamp int
	value string
}

func (c call) String() string {
	switch c.what {
	case "Put":
		return fmt.Sprintf("Put(%.10q, %d, %.10q (%d))", c.key, c.stamp, c.value, len(c.value))
	case "Delete":
		return fmt.Sprintf("Delete(%.10q, %d)", c.key, c.stamp)
	case "Raise":
		return fmt.Sprintf("Raise(%d)", c.stamp)
	}
	return c.what
}

func put(key string, stamp int, value string) call { return call{"Put", key, stamp, value} }
func del(key string, stamp int) call               { return call{what: "Delete", key: key, stamp: stamp} }
func raise(stamp int) call                         { return call{what: "Raise", stamp: stamp} }

var (
	flush   = call{what: "Flush"}
	compact = call{what: "Compact"}
	reopen  = call{what: "Open"}
)

// on does the call on a store; "Open" opens its disk anew.
func (c call) on(d *disk.Disk, s *store.Store) (*store.Store, api.Errno) {
	switch c.what {
	case "Put":
		return s, s.Put(c.key, c.stamp, c.value)
	case "Delete":
		return s, s.Delete(c.key, c.stamp)
	case "Raise":
		return s, s.Raise(c.stamp)
	case "Flush":
		return s, s.Flush()
	case "Compact":
		return s, s.Compact()
	}
	return store.Open(d)
}

// slowly does the call on a slow store.
func (c call) slowly(m *slow) api.Errno {
	switch c.what {
	case "Put":
		return m.add(version{key: c.key, stamp: c.stamp, value: c.value})
	case "Delete":
		return m.add(version{key: c.key, stamp: c.stamp, gone: true})
	case "Raise":
		return m.raise(c.stamp)
	case "Flush":
		m.flushed = m.now.clone()
	case "Compact":
		return m.compact()
	case "Open":
		m.now = m.flushed.clone()
	}
	return api.OK
}

// pair: a store and a slow one, that get the same calls.
type pair struct {
	t    *testing.T
	d    *disk.Disk
	s    *store.Store
	m    *slow
	done []call
}

func newDisk(t *testing.T, capacity int) *disk.Disk {
	t.Helper()
	d, e := disk.New(capacity)
	if d == nil || e != api.OK {
		t.Fatalf("New(%d): %d", capacity, e)
	}
	return d
}

func open(t *testing.T, d *disk.Disk) *store.Store {
	t.Helper()
	s, e := store.Open(d)
	if s == nil || e != api.OK {
		t.Fatalf("Open: %d", e)
	}
	return s
}

func newPair(t *testing.T, capacity int, calls ...call) *pair {
	t.Helper()
	d := newDisk(t, capacity)
	p := &pair{t: t, d: d, s: open(t, d), m: newSlow()}
	p.do(calls...)
	return p
}

// do does calls on both, whose answers must be the same.
func (p *pair) do(calls ...call) {
	p.t.Helper()
	for _, c := range calls {
		p.answers(c.slowly(p.m), c)
	}
}

// answers does a call on the store alone, and holds its answer to this one.
func (p *pair) answers(want api.Errno, c call) {
	p.t.Helper()
	p.done = append(p.done, c)
	s, e := c.on(p.d, p.s)
	if e != want {
		p.t.Fatalf("%v: the last answers %d, want %d", p.tail(), e, want)
	}
	p.s = s
	if c.what == "Compact" && e == api.OK && p.d.Size() > p.m.most() {
		p.t.Fatalf("%v: the files have %d bytes, at most are allowed %d", p.tail(), p.d.Size(), p.m.most())
	}
}

// both does a call on both, whose answer the test knows.
func (p *pair) both(want api.Errno, c call) {
	p.t.Helper()
	if e := c.slowly(p.m); e != want {
		p.t.Fatalf("%v: the slow store answers %d, want %d", c, e, want)
	}
	p.answers(want, c)
}

// same holds each answer of GetAt that may differ from others to the slow
// store's.
func (p *pair) same() {
	p.t.Helper()
	if how := p.differs(); how != "" {
		p.t.Fatalf("%v: %s", p.tail(), how)
	}
}

// differs tells how an answer of GetAt differs from the slow store's; nothing,
// if none does.
func (p *pair) differs() string {
	w := p.m.now.watermark
	for _, key := range []string{"", "not there", "k", string(make([]byte, 65))} {
		for _, stamp := range []int{-1 << 63, -1, 0, w - 1, w, w + 1, 1 << 40, 1<<40 + 1, 1<<63 - 1} {
			if how := p.at(key, stamp); how != "" {
				return how
			}
		}
	}
	stamps := map[string][]int{}
	for _, v := range p.m.now.versions {
		stamps[v.key] = append(stamps[v.key], v.stamp-1, v.stamp, v.stamp+1)
	}
	for key, l := range stamps {
		slices.Sort(l)
		for _, stamp := range append(slices.Compact(l), 1<<63-1) {
			if how := p.at(key, stamp); how != "" {
				return how
			}
		}
	}
	return ""
}

// at tells how GetAt differs from that of the slow store; nothing, if it does
// not.
func (p *pair) at(key string, stamp int) string {
	want, is, e := p.m.getAt(key, stamp)
	v, there, got := p.s.GetAt(key, stamp)
	if v == want && there == is && got == e {
		return ""
	}
	return fmt.Sprintf("GetAt(%.10q, %d) = %.20q (%d), %t, %d, want %.20q (%d), %t, %d",
		key, stamp, v, len(v), there, got, want, len(want), is, e)
}

func (p *pair) tail() []call { return p.done[max(0, len(p.done)-12):] }

// files: all that a disk has.
func files(t *testing.T, d *disk.Disk) map[string]string {
	t.Helper()
	m := map[string]string{}
	for _, name := range d.Names() {
		s, e := d.Read(name)
		if e != api.OK {
			t.Fatalf("Read(%q): %d", name, e)
		}
		m[name] = s
	}
	return m
}

// copied: another disk with the same files.
func copied(t *testing.T, d *disk.Disk, capacity int) *disk.Disk {
	t.Helper()
	other := newDisk(t, capacity)
	for name, s := range files(t, d) {
		if other.Append(name, s) != api.OK || other.Sync(name) != api.OK {
			t.Fatalf("the file %q can't be laid on another disk", name)
		}
	}
	return other
}
