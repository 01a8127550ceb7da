package store

import (
	"iter"

	"strata/api"
	"strata/sorted"
)

// histories goes through all keys that have versions, flushed or pending, and
// tells of each its versions, the newest first. Where a byte is wrong, or the
// disk is dead, it tells that, and ends.
func (s *Store) histories() iter.Seq2[[]api.Record, api.Errno] {
	return func(yield func([]api.Record, api.Errno) bool) {
		l, e := read(s.disk)
		if e != api.OK {
			yield(nil, e)
			return
		}
		flushed := cursor{layout: l}
		for key := range sorted.Union(&s.newest, &s.pending) {
			versions, e := s.history(key, &flushed)
			if !yield(versions, e) || e != api.OK {
				return
			}
		}
	}
}

// history is the versions of a key, of which the flushed ones come next.
func (s *Store) history(key string, flushed *cursor) ([]api.Record, api.Errno) {
	var versions []api.Record
	if pending, there := s.pending.Get(key); there {
		for _, r := range pending.Backward() {
			versions = append(versions, r)
		}
	}
	if _, there := s.newest.Get(key); !there {
		return versions, api.OK
	}
	elder, e := flushed.take(key)
	if e != api.OK {
		return nil, e
	}
	return append(versions, elder...), api.OK
}

// cursor goes through the flushed versions, and reads a block only when those
// ahead of it are taken.
type cursor struct {
	layout
	next int          // the block to be read next
	left []api.Record // those of the block read last that are not taken yet
}

// take tells the versions of the key that comes next: one at least.
func (c *cursor) take(key string) ([]api.Record, api.Errno) {
	var versions []api.Record
	for {
		if e := c.fill(); e != api.OK {
			return nil, e
		}
		if len(c.left) == 0 || c.left[0].Key != key {
			break
		}
		versions = append(versions, c.left[0])
		c.left = c.left[1:]
	}
	// Somebody has changed the file so that this key's versions are not there.
	if len(versions) == 0 {
		return nil, api.ErrCorrupt
	}
	return versions, api.OK
}

// fill reads the next block, if there is one and nothing is left of the last.
func (c *cursor) fill() api.Errno {
	if len(c.left) > 0 || c.next == len(c.index) {
		return api.OK
	}
	records, e := c.block(c.next)
	c.left = records
	c.next++
	return e
}
