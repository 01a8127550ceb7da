package store

import (
	"strings"

	"strata/api"
	"strata/block"
	"strata/disk"
	"strata/sorted"
	"strata/texts"
	"strata/wire"
)

// blockBytes is how many bytes of keys and bodies end a block: it has room for
// a value of any size and changes behind it, and is soon read.
const blockBytes = 2 * api.MaxValue

// choice says which versions of a key, the newest first, are kept.
type choice func(versions []api.Record) []api.Record

// drops says whether there are versions that are not kept.
func (s *Store) drops(keep choice) (bool, api.Errno) {
	for versions, e := range s.histories() {
		if e != api.OK {
			return false, e
		}
		if len(keep(versions)) < len(versions) {
			return true, api.OK
		}
	}
	return false, api.OK
}

// layDown lays the store down anew, with the versions that are kept. It does so
// in a file of its own, which takes the old one's place at the end: so at each
// moment there is a whole one.
func (s *Store) layDown(keep choice) api.Errno {
	w := writer{disk: s.disk}
	for versions, e := range s.histories() {
		if e == api.OK {
			e = w.add(keep(versions)...)
		}
		if e != api.OK {
			return s.giveUp(e)
		}
	}
	if e := w.end(s.watermark); e != api.OK {
		return s.giveUp(e)
	}
	s.newest = w.newest
	s.pending = sorted.Map[string, *sorted.Map[int, api.Record]]{}
	s.flushed = s.watermark
	return api.OK
}

// giveUp takes away what was laid down so far, and answers what stopped it.
func (s *Store) giveUp(e api.Errno) api.Errno {
	if tidy(s.disk) == api.ErrDead {
		e = api.ErrDead
	}
	s.meet(e)
	return e
}

// writer lays down a store.
type writer struct {
	disk   *disk.Disk
	open   []api.Record // those of the block that is not on the disk yet
	size   int          // how many bytes their keys and bodies have
	index  []string     // what the index says of the blocks on the disk
	newest sorted.Map[string, int]
}

// add lays down versions of a key, the newest first, behind those of all lower
// keys.
func (w *writer) add(versions ...api.Record) api.Errno {
	newer := ""
	based := false // whether the open block has a newer value of this key
	for _, r := range versions {
		if w.isFull() {
			if e := w.endBlock(); e != api.OK {
				return e
			}
			based = false
		}
		s, e := value(r, newer)
		if e != api.OK {
			return e
		}
		if based {
			w.put(changed(r, newer))
		} else {
			w.put(whole(r, s))
		}
		newer, based = s, based || r.Kind != api.Gone
	}
	if len(versions) > 0 {
		w.newest.Put(strings.Clone(versions[0].Key), versions[0].Stamp)
	}
	return api.OK
}

func (w *writer) isFull() bool {
	return len(w.open) == api.MaxRecords || w.size >= blockBytes
}

func (w *writer) put(r api.Record) {
	w.open = append(w.open, r)
	w.size += len(r.Key) + len(r.Body)
}

// endBlock brings the open block to the disk, if it has a record.
func (w *writer) endBlock() api.Errno {
	if len(w.open) == 0 {
		return api.OK
	}
	text, e := block.Build(w.open)
	if e != api.OK {
		return api.ErrCorrupt
	}
	last := w.open[len(w.open)-1]
	w.index = append(w.index,
		texts.Number(len(text)),
		texts.Number(len(last.Key)), last.Key,
		texts.Number(last.Stamp))
	w.open, w.size = nil, 0
	return w.disk.Append(fresh, text)
}

// end brings the rest to the disk, and lets the file take the old one's place.
func (w *writer) end(watermark int) api.Errno {
	e := w.endBlock()
	if e == api.OK {
		e = w.disk.Append(fresh, ending(watermark, w.index...))
	}
	if e == api.OK {
		e = w.disk.Sync(fresh)
	}
	if e == api.OK {
		e = w.disk.Rename(fresh, laid)
	}
	return e
}

// ending is what stands behind the blocks of which the index says this.
func ending(watermark int, index ...string) string {
	sealed := wire.Seal(texts.Join(texts.Number(watermark+1), texts.Join(index...)))
	return texts.Join(sealed, wire.Seal(texts.Number(wide+len(sealed))))
}
