package disk_test

import (
	"fmt"
	"maps"
	"slices"
	"strings"
	"testing"

	"strata/api"
	"strata/disk"
)

// slowDisk: a disk as the document's words tell it, each byte with whether it
// is synced.
type slowDisk struct {
	capacity int
	files    map[string][]slowByte
	dead     bool
	armed    bool
	diesIn   int
}

type slowByte struct {
	b      byte
	synced bool
}

func newSlow(capacity int) *slowDisk {
	return &slowDisk{capacity: capacity, files: map[string][]slowByte{}}
}

// call: a call of a disk that may change it, with all that is handed in.
type call struct {
	what        string
	name, other string // other: the text of Append, the new name of Rename
	n, mask     int    // n: the place of Flip, the number of Arm
	keep        []int
}

func (c call) String() string {
	switch c.what {
	case "Append", "Rename":
		return fmt.Sprintf("%s(%.40q, %.40q)", c.what, c.name, c.other)
	case "Arm":
		return fmt.Sprintf("Arm(%d)", c.n)
	case "Crash":
		return fmt.Sprintf("Crash(%d)", c.keep)
	case "Flip":
		return fmt.Sprintf("Flip(%.40q, %d, %d)", c.name, c.n, c.mask)
	}
	return fmt.Sprintf("%s(%.40q)", c.what, c.name)
}

func put(name, s string) call         { return call{what: "Append", name: name, other: s} }
func sync(name string) call           { return call{what: "Sync", name: name} }
func rename(old, name string) call    { return call{what: "Rename", name: old, other: name} }
func remove(name string) call         { return call{what: "Remove", name: name} }
func arm(n int) call                  { return call{what: "Arm", n: n} }
func crash(keep ...int) call          { return call{what: "Crash", keep: keep} }
func flip(name string, n, m int) call { return call{what: "Flip", name: name, n: n, mask: m} }

// on does the call on a disk. (Crash has no answer: OK stands for it.)
func (c call) on(d *disk.Disk) api.Errno {
	switch c.what {
	case "Append":
		return d.Append(c.name, c.other)
	case "Sync":
		return d.Sync(c.name)
	case "Rename":
		return d.Rename(c.name, c.other)
	case "Remove":
		return d.Remove(c.name)
	case "Arm":
		return d.Arm(c.n)
	case "Flip":
		return d.Flip(c.name, c.n, c.mask)
	}
	d.Crash(c.keep)
	return api.OK
}

// slowly does the call on a slow disk.
func (c call) slowly(d *slowDisk) api.Errno {
	switch c.what {
	case "Arm":
		if c.n < 0 {
			return api.ErrRange
		}
		d.armed, d.diesIn = c.n > 0, c.n
		return api.OK
	case "Flip":
		return d.flip(c.name, c.n, c.mask)
	case "Crash":
		d.crash(c.keep)
		return api.OK
	}
	if d.dead {
		return api.ErrDead
	}
	if e := c.slowError(d); e != api.OK {
		return e
	}
	if d.armed {
		d.diesIn--
		if d.diesIn == 0 {
			d.dead = true
			return api.ErrDead
		}
	}
	c.slowChange(d)
	return api.OK
}

// slowError: the error of a changing call on a disk that lives.
func (c call) slowError(d *slowDisk) api.Errno {
	_, there := d.files[c.name]
	if c.what == "Append" {
		if len(c.name) == 0 || len(c.name) > 32 {
			return api.ErrName
		}
		if d.size()+len(c.other) > d.capacity || !there && len(d.files) >= 64 {
			return api.ErrFull
		}
		return api.OK
	}
	if !there || c.what == "Rename" && (len(c.other) == 0 || len(c.other) > 32) {
		return api.ErrName
	}
	return api.OK
}

func (c call) slowChange(d *slowDisk) {
	f := d.files[c.name]
	switch c.what {
	case "Append":
		for i := range len(c.other) {
			f = append(f, slowByte{c.other[i], false})
		}
		d.files[c.name] = f
	case "Sync":
		for i := range f {
			f[i].synced = true
		}
	case "Rename":
		if c.name != c.other {
			d.files[c.other] = f
			delete(d.files, c.name)
		}
	case "Remove":
		delete(d.files, c.name)
	}
}

func (d *slowDisk) flip(name string, at, mask int) api.Errno {
	f, there := d.files[name]
	if !there {
		return api.ErrName
	}
	for i := range f {
		for m := range 256 {
			if i == at && m == mask {
				f[i].b ^= byte(m)
				return api.OK
			}
		}
	}
	return api.ErrRange
}

func (d *slowDisk) crash(keep []int) {
	for i, name := range d.names() {
		f := d.files[name]
		first := 0
		for first < len(f) && f[first].synced {
			first++
		}
		stay := 0
		if i < len(keep) && keep[i] >= 0 {
			stay = keep[i] % (len(f) - first + 1)
		}
		f = f[:first+stay]
		for j := range f {
			f[j].synced = true
		}
		d.files[name] = f
	}
	d.dead, d.armed = false, false
}

func (d *slowDisk) names() []string { return slices.Sorted(maps.Keys(d.files)) }

func (d *slowDisk) size() int {
	n := 0
	for _, f := range d.files {
		n += len(f)
	}
	return n
}

// read: what Read tells of a slow disk.
func (d *slowDisk) read(name string) (string, api.Errno) {
	if d.dead {
		return "", api.ErrDead
	}
	f, there := d.files[name]
	if !there {
		return "", api.ErrName
	}
	var b strings.Builder
	for _, x := range f {
		b.WriteByte(x.b)
	}
	return b.String(), api.OK
}

// differs tells how a disk differs from the slow one, in what can be asked
// without changing it; nothing, if it does not.
func differs(d *disk.Disk, slow *slowDisk) string {
	want := slow.names()
	if slow.dead {
		want = nil
	}
	if l := d.Names(); !slices.Equal(l, want) {
		return fmt.Sprintf("Names() = %.200q, want %.200q", l, want)
	}
	if d.Size() != slow.size() {
		return fmt.Sprintf("Size() = %d, want %d", d.Size(), slow.size())
	}
	for _, name := range append(slow.names(), "not there", "") {
		s, e := d.Read(name)
		if sure, wanted := slow.read(name); s != sure || e != wanted {
			return fmt.Sprintf("Read(%q) = %.60q, %d, want %.60q, %d", name, s, e, sure, wanted)
		}
	}
	return ""
}

// pair: a disk and a slow one, that get the same calls.
type pair struct {
	t    *testing.T
	d    *disk.Disk
	slow *slowDisk
	done []call
}

func newPair(t *testing.T, capacity int) *pair {
	t.Helper()
	d, e := disk.New(capacity)
	if d == nil || e != api.OK {
		t.Fatalf("New(%d): %d", capacity, e)
	}
	return &pair{t: t, d: d, slow: newSlow(capacity)}
}

// do does calls on both, and holds the disk to the slow one behind each.
func (p *pair) do(calls ...call) {
	p.t.Helper()
	for _, c := range calls {
		p.done = append(p.done, c)
		want := c.slowly(p.slow)
		if e := c.on(p.d); e != want {
			p.t.Fatalf("%v: the last answers %d, want %d", p.tail(), e, want)
		}
		if how := differs(p.d, p.slow); how != "" {
			p.t.Fatalf("%v: %s", p.tail(), how)
		}
	}
}

// answers does one call on both, whose answer the test knows.
func (p *pair) answers(want api.Errno, c call) {
	p.t.Helper()
	p.do(c)
	if c.on(p.again()) != want {
		p.t.Fatalf("%v: the last does not answer %d", p.tail(), want)
	}
}

// again is another disk that has got all calls but the last.
func (p *pair) again() *disk.Disk {
	d, _ := disk.New(p.slow.capacity)
	for _, c := range p.done[:len(p.done)-1] {
		c.on(d)
	}
	return d
}

func (p *pair) tail() []call { return p.done[max(0, len(p.done)-12):] }
