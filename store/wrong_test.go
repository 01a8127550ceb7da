package store_test

import (
	"math/rand"
	"strings"
	"testing"

	"strata/api"
	"strata/block"
	"strata/disk"
	"strata/store"
	"strata/wire"
)

// wrongFile: bytes that a file of a store may have behind the store's back.
func wrongFile(r *rand.Rand, good string) string {
	switch r.Intn(6) {
	case 0:
		return noise(r, r.Intn(30))
	case 1:
		return good[:r.Intn(len(good)+1)]
	case 2:
		return good[r.Intn(len(good)+1):]
	case 3:
		return good + good
	}
	b := []byte(good)
	for range 1 + r.Intn(4) {
		b[r.Intn(len(b))] ^= byte(1 + r.Intn(255))
	}
	return string(b)
}

// every calls all that a store has: each must end.
func every(d *disk.Disk, s *store.Store) {
	for range 2 {
		for _, key := range []string{"", "a", "k", "k1", "ky2", "zzz"} {
			for _, stamp := range []int{-1, 0, 10, maxStamp} {
				s.GetAt(key, stamp)
			}
		}
		s.Compact()
		s.Put("k1", 1000, "v")
		s.Delete("a", 1001)
		s.Flush()
		s.Raise(900)
		s.Flush()
		s.Compact()
	}
	store.Open(d)
}

func TestP1NoCallPanicsWhateverBytesTheFilesHave(t *testing.T) {
	r := rand.New(rand.NewSource(1))
	for range 40 {
		p := newPair(t, plenty, put("a", 1, "x"))
		values := someValues(r)
		for i := range 60 {
			p.do(someCall(r, i, values))
		}
		p.do(flush)
		for range 60 {
			d := newDisk(t, plenty)
			for name, s := range files(t, p.d) {
				d.Append(name, wrongFile(r, s))
			}
			if s, e := store.Open(d); e == api.OK {
				every(d, s)
			} else if s != nil || e != api.ErrCorrupt {
				t.Fatalf("Open: %d", e)
			}
		}
		// The bytes become wrong under a store that is open.
		name := p.d.Names()[0]
		for range 5 {
			p.d.Flip(name, r.Intn(p.d.Size()), r.Intn(256))
		}
		every(p.d, p.s)
	}
}

// Each file of at most two bytes.
func TestP1ShortFiles(t *testing.T) {
	for n := range 1 + 256 + 65536 {
		bytes := ""
		for ; n > 0; n = (n - 1) / 256 {
			bytes += string([]byte{byte((n - 1) % 256)})
		}
		d := newDisk(t, 10)
		d.Append("store", bytes)
		if s, e := store.Open(d); s != nil || e != api.ErrCorrupt {
			t.Fatalf("%q: Open: %d, want ErrCorrupt", bytes, e)
		}
		if s, e := d.Read("store"); s != bytes || e != api.OK {
			t.Fatalf("%q: it is %q, %d", bytes, s, e)
		}
	}
}

// Files of any names and bytes, beside the store's file or without it, up to as
// many as there can be.
func TestP1FilesOfAnyNames(t *testing.T) {
	r := rand.New(rand.NewSource(3))
	good := files(t, newPair(t, plenty, put("a", 1, "x"), put("k", 5, "y"), flush).d)["store"]
	for i := range 600 {
		d := newDisk(t, []int{0, 10, 100, 1000, plenty}[r.Intn(5)])
		if r.Intn(2) == 0 {
			d.Append("store", good)
		}
		for range []int{0, 1, 2, 70}[i%4] {
			name := []string{"store.new", "store.old", "store", "\x00", noise(r, 1+r.Intn(32))}[r.Intn(5)]
			d.Append(name, wrongFile(r, good))
		}
		// Some of it is not synced, and is lost.
		if r.Intn(2) == 0 {
			d.Crash([]int{r.Intn(50), r.Intn(50)})
		}
		if s, e := store.Open(d); e == api.OK {
			every(d, s)
		} else if s != nil || e != api.ErrCorrupt {
			t.Fatalf("Open: %d", e)
		}
	}
}

// someRecords: records in order, of kinds and bodies that mostly no store lays
// down so.
func someRecords(r *rand.Rand) []api.Record {
	var l []api.Record
	for _, key := range []string{"a", "k", "k1", "ky2"} {
		for stamp := 12; stamp > 0 && len(l) < api.MaxRecords; stamp -= 1 + r.Intn(6) {
			body := []string{"", "text", noise(r, r.Intn(9)), "\x03\x07\x00", "\x05\x04he\x07\x00", longest + "more"}[r.Intn(6)]
			l = append(l, rec(key, stamp, r.Intn(3), body))
		}
	}
	return l[r.Intn(len(l)):]
}

// Sealed rightly, but of any blocks, and with an index that tells of them what
// may not be so.
func TestP1SealedFilesOfAnyBlocks(t *testing.T) {
	r := rand.New(rand.NewSource(4))
	opened := 0
	for range 1500 {
		index := text(r.Intn(20))
		var blocks []string
		for range 1 + r.Intn(3) {
			l := someRecords(r)
			b := records(l...)
			last := l[len(l)-1]
			if r.Intn(4) == 0 {
				last = rec(noise(r, r.Intn(3)), r.Intn(20), 0, "")
			}
			blocks = append(blocks, b)
			index += text(len(b)+r.Intn(20)/19, len(last.Key), last.Key, last.Stamp)
		}
		d := onDisk(t, file(index, blocks...))
		s, e := store.Open(d)
		if e == api.OK {
			opened++
			every(d, s)
		} else if s != nil || e != api.ErrCorrupt {
			t.Fatalf("Open: %d", e)
		}
	}
	if opened < 500 {
		t.Errorf("only %d were opened", opened)
	}
}

// text: numbers and texts, one behind the other, as bytes.
func text(parts ...any) string {
	var b strings.Builder
	for _, p := range parts {
		switch x := p.(type) {
		case int:
			s, _ := wire.Put(x)
			b.WriteString(s)
		case string:
			b.WriteString(x)
		}
	}
	return b.String()
}

func records(l ...api.Record) string {
	s, _ := block.Build(l)
	return s
}

func rec(key string, stamp int, kind int, body string) api.Record {
	return api.Record{Key: key, Stamp: stamp, Kind: kind, Body: body}
}

// file: a file with these blocks, this index and the right foot.
func file(index string, blocks ...string) string {
	sealed := wire.Seal(index)
	return strings.Join(blocks, "") + sealed + wire.Seal(text(1<<21+len(sealed)))
}

// onDisk: a disk on which the file of a store has these bytes.
func onDisk(t *testing.T, bytes string) *disk.Disk {
	t.Helper()
	p := newPair(t, plenty, raise(1), flush)
	d := newDisk(t, plenty)
	if e := d.Append(p.d.Names()[0], bytes); e != api.OK {
		t.Fatalf("Append: %d", e)
	}
	return d
}

func TestP1TheRightFileIsRead(t *testing.T) {
	a, b := records(rec("k", 9, api.Full, "x"), rec("k", 7, api.Gone, "")), records(rec("k", 5, api.Full, "y"))
	d := onDisk(t, file(text(4, len(a), 1, "k", 7, len(b), 1, "k", 5), a, b))
	p := &pair{t: t, d: d, s: open(t, d), m: newSlow()}
	p.m.now = state{[]version{{"k", 5, "y", false}, {"k", 7, "", true}, {"k", 9, "x", false}}, 3}
	p.same()
}

// Sealed rightly, but not as a store does: Open tells it.
func TestP1OpenOfSealedFilesThatNoStoreLaysDown(t *testing.T) {
	a, b := records(rec("a", 5, api.Full, "x")), records(rec("b", 5, api.Full, "y"))
	good := text(0, len(a), 1, "a", 5)
	for name, s := range map[string]string{
		"nothing":                  "",
		"a short text":             "\x00\x00\x00",
		"an empty seal":            wire.Seal(""),
		"two empty seals":          wire.Seal("") + wire.Seal(""),
		"no index":                 wire.Seal(text(1 << 21)),
		"an index of no bytes":     file(""),
		"an index beyond the file": wire.Seal(text(0)) + wire.Seal(text(1<<21+6)),
		"a length below 0":         wire.Seal(text(0)) + wire.Seal(text(1<<21-5)),
		"a foot of no number":      wire.Seal(text(0)) + wire.Seal("\x80\x80\x80\x80"),
		"a watermark too great":    file(text(1<<40 + 2)),
		"a block without an entry": file(text(0), a),
		"an entry without a block": file(good),
		"a block too many":         file(good, a, b),
		"a block too few":          file(good+text(len(b), 1, "b", 5), a),
		"blocks cut wrongly":       file(text(0, len(a)-1, 1, "a", 5, len(b)+1, 1, "b", 5), a, b),
		"an entry cut short":       file(text(0, len(a), 1, "a"), a),
		"a key cut short":          file(text(0, len(a), 9, "a"), a),
		"a key too long":           file(text(0, len(a), 65, longKey+"k", 5), a),
		"a stamp too great":        file(text(0, len(a), 1, "a", 1<<40+1), a),
		"a block without records":  file(text(0, len(records()), 1, "a", 5), records()),
		"a block that is none":     file(text(0, 8, 1, "a", 5), wire.Seal("none")),
	} {
		d := onDisk(t, s)
		if s, e := store.Open(d); s != nil || e != api.ErrCorrupt {
			t.Errorf("%s: Open: %d, want ErrCorrupt", name, e)
			if s != nil {
				every(d, s)
			}
		}
		if len(d.Names()) != 1 || d.Size() != len(s) {
			t.Errorf("%s: a file has changed", name)
		}
	}
}

// Versions that a store would not have laid down so: whoever must read them
// tells it.
func TestP1VersionsThatNoStoreLaysDown(t *testing.T) {
	a, b, old := records(rec("k", 7, api.Full, "x")), records(rec("j", 5, api.Full, "y")), records(rec("k", 7, api.Full, "x"))
	long := records(rec("k", 7, api.Full, "x"), rec("k", 6, api.Full, longest+"and more"))
	for name, c := range map[string]struct {
		bytes    string
		get, lay api.Errno
	}{
		"a change that does not fit": {file(text(0, len(bad("\x01\x03\x00")), 1, "k", 5), bad("\x01\x03\x00")), api.ErrCorrupt, api.ErrCorrupt},
		"a change that is none":      {file(text(0, len(bad("none")), 1, "k", 5), bad("none")), api.ErrCorrupt, api.ErrCorrupt},
		"keys out of order":          {file(text(0, len(a), 1, "k", 7, len(b), 1, "j", 5), a, b), api.OK, api.ErrCorrupt},
		"stamps out of order":        {file(text(0, len(a), 1, "k", 7, len(old), 1, "k", 7), a, old), api.OK, api.ErrCorrupt},
		"a value too long":           {file(text(0, len(long), 1, "k", 6), long), api.OK, api.OK},
	} {
		d := onDisk(t, c.bytes)
		s := open(t, d)
		if _, _, e := s.GetAt("k", 7); e != c.get {
			t.Errorf("%s: GetAt: %d, want %d", name, e, c.get)
		}
		s.Put("new", 8, "")
		before := files(t, d)
		if e := s.Flush(); e != c.lay {
			t.Errorf("%s: Flush: %d, want %d", name, e, c.lay)
		}
		if v, _, e := s.GetAt("k", 6); name == "a value too long" && (v != longest+"and more" || e != api.OK) {
			t.Errorf("%s: %d bytes, %d", name, len(v), e)
		}
		if c.lay != api.OK && len(before) != len(files(t, d)) {
			t.Errorf("%s: a file was left", name)
		}
		every(d, s)
	}
}

// bad: a block with one version, which is a change of nothing.
func bad(change string) string { return records(rec("k", 5, api.Delta, change)) }

// Somebody has laid another store's file in the place of this one's: no Flush
// takes for dropped what it does not find.
func TestP1AFileOfAnotherStore(t *testing.T) {
	p := newPair(t, plenty, put("b", 1, "x"), put("d", 1, "y"), flush)
	name := p.d.Names()[0]
	for _, calls := range [][]call{{put("a", 1, "")}, {put("b", 1, "")}, {put("c", 1, "")}, {put("b", 1, ""), put("e", 1, "")}, {raise(1)}} {
		other := newPair(t, plenty, calls...)
		other.do(flush)
		d := copied(t, p.d, plenty)
		s := open(t, d)
		if d.Remove(name) != api.OK || d.Append(name, files(t, other.d)[name]) != api.OK {
			t.Fatalf("%q can't be replaced", name)
		}
		s.Put("new", 5, "")
		if e := s.Flush(); e != api.ErrCorrupt {
			t.Errorf("%v: Flush: %d", calls, e)
		}
		every(d, s)
	}
}
