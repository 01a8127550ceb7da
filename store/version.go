package store

import (
	"strata/api"
	"strata/delta"
)

// all keeps all versions of a key.
func all(versions []api.Record) []api.Record { return versions }

// needed keeps those versions of a key, the newest first, that can be asked for
// with this watermark.
func needed(versions []api.Record, watermark int) []api.Record {
	for i, r := range versions {
		if r.Stamp > watermark {
			continue
		}
		if r.Kind == api.Gone {
			return versions[:i]
		}
		return versions[:i+1]
	}
	return versions
}

// value is the value of a version, of which newer is the next newer value. A
// version that says that the key is gone has none, and leaves the next newer
// one to the version behind it.
func value(r api.Record, newer string) (string, api.Errno) {
	switch r.Kind {
	case api.Full:
		return r.Body, api.OK
	case api.Gone:
		return newer, api.OK
	}
	s, e := delta.Apply(r.Body, newer)
	if e != api.OK {
		return "", api.ErrCorrupt
	}
	return s, api.OK
}

// whole is a version, of which s is the value, as it stands where no newer
// value is at hand.
func whole(r api.Record, s string) api.Record {
	if r.Kind == api.Delta {
		r.Kind, r.Body = api.Full, s
	}
	return r
}

// changed is a version as it stands behind its next newer value: as what must
// be changed there, if that is shorter.
func changed(r api.Record, newer string) api.Record {
	if r.Kind != api.Full {
		return r
	}
	change, e := delta.Diff(newer, r.Body)
	if e == api.OK && len(change) < len(r.Body) {
		r.Kind, r.Body = api.Delta, change
	}
	return r
}

// valueAt tells the value that a key has at a stamp, and whether it has one, by
// records that have its versions from some newer one on.
func valueAt(records []api.Record, key string, stamp int) (string, bool, api.Errno) {
	newer := ""
	for _, r := range records {
		if r.Key != key {
			continue
		}
		s, e := value(r, newer)
		if e != api.OK {
			return "", false, e
		}
		if r.Stamp > stamp {
			newer = s
			continue
		}
		if r.Kind == api.Gone {
			return "", false, api.OK
		}
		return s, true, api.OK
	}
	return "", false, api.OK
}
