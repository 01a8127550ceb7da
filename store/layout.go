package store

import (
	"cmp"
	"slices"
	"strings"

	"strata/api"
	"strata/block"
	"strata/disk"
	"strata/texts"
	"strata/wire"
)

// What is flushed lies in one file: blocks, in which each key's versions stand
// so that no record needs one of another block; the sealed index of them; and
// the sealed foot, which tells how many bytes that has.
const (
	laid  = "store"
	fresh = "store.new" // the file while it is being laid down
	// wide is added to the index's length: it is more than that can be, and so
	// all these numbers have as many bytes, and the foot has its place.
	wide      = 1 << 21
	footBytes = 8
)

// layout is what the file says.
type layout struct {
	watermark int
	blocks    string
	index     []entry
}

// entry says of a block where it lies, and which version its last record is.
type entry struct {
	from, to int
	key      string
	stamp    int
}

// compare says how two versions stand to one another: a key's newest is first.
func (n entry) compare(m entry) int {
	return cmp.Or(strings.Compare(n.key, m.key), cmp.Compare(m.stamp, n.stamp))
}

// settle lets the file that was found last, and nothing beside it: somebody may
// have laid it on this disk without syncing it.
func settle(d *disk.Disk) api.Errno {
	if e := ifThere(d.Sync(laid)); e != api.OK {
		return e
	}
	return tidy(d)
}

// tidy takes away what was laid down, but not to its end.
func tidy(d *disk.Disk) api.Errno { return ifThere(d.Remove(fresh)) }

// ifThere is what a call of the disk answers that may find no file.
func ifThere(e api.Errno) api.Errno {
	if e == api.ErrName {
		return api.OK
	}
	return e
}

// read reads the file of a disk.
func read(d *disk.Disk) (layout, api.Errno) {
	text, e := d.Read(laid)
	if e == api.ErrName {
		return layout{watermark: -1}, api.OK
	}
	if e != api.OK {
		return layout{}, e
	}
	text, foot, e := cut(text, footBytes)
	if e != api.OK {
		return layout{}, e
	}
	size := texts.Read(foot).Number(api.MaxNumber) - wide
	blocks, index, e := cut(text, size)
	if e != api.OK {
		return layout{}, e
	}
	return readIndex(blocks, index)
}

// cut takes the sealed text of so many bytes off a text's end.
func cut(text string, size int) (string, string, api.Errno) {
	if size < 0 || size > len(text) {
		return "", "", api.ErrCorrupt
	}
	at := len(text) - size
	last, e := wire.Unseal(text[at:])
	if e != api.OK {
		return "", "", api.ErrCorrupt
	}
	return text[:at], last, api.OK
}

// readIndex tells the layout of blocks that have this index.
func readIndex(blocks string, index string) (layout, api.Errno) {
	r := texts.Read(index)
	l := layout{watermark: r.Number(api.MaxStamp+1) - 1, blocks: blocks}
	at := 0
	for r.More() {
		n := entry{from: at, to: at + r.Number(len(blocks))}
		n.key = r.Bytes(r.Number(api.MaxKey))
		n.stamp = r.Number(api.MaxStamp)
		l.index = append(l.index, n)
		at = n.to
	}
	if r.Failed() || at != len(blocks) {
		return layout{}, api.ErrCorrupt
	}
	return l, api.OK
}

// block reads a block: one record at least.
func (l layout) block(i int) ([]api.Record, api.Errno) {
	n := l.index[i]
	records, e := block.Parse(l.blocks[n.from:n.to])
	if e != api.OK || len(records) == 0 {
		return nil, api.ErrCorrupt
	}
	return records, api.OK
}

// valueAt tells the value that a key has at a stamp, and whether it has one.
func (l layout) valueAt(key string, stamp int) (string, bool, api.Errno) {
	// The version is in the first block that does not end ahead of it.
	i, _ := slices.BinarySearchFunc(l.index, entry{key: key, stamp: stamp}, entry.compare)
	if i == len(l.index) {
		return "", false, api.OK
	}
	records, e := l.block(i)
	if e != api.OK {
		return "", false, e
	}
	return valueAt(records, key, stamp)
}
