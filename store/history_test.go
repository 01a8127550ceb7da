package store

import (
	"strings"
	"testing"

	"strata/api"
	"strata/disk"
)

// keysStore: a store with the keys a to j flushed, the value of each in a block
// of its own, and b, c and z pending.
func keysStore(t *testing.T) *Store {
	t.Helper()
	d, _ := disk.New(1 << 20)
	s, _ := Open(d)
	for _, key := range strings.Split("abcdefghij", "") {
		s.Put(key, 1, strings.Repeat(key, api.MaxValue))
		s.Put(key, 2, strings.Repeat(strings.ToUpper(key), api.MaxValue))
	}
	if e := s.Flush(); e != api.OK {
		t.Fatalf("Flush: %d", e)
	}
	s.Put("b", 3, "new")
	s.Delete("b", 4)
	s.Put("c", 3, "")
	s.Put("z", 3, "")
	return s
}

func TestHistoriesTellAllVersionsAKeyAtATime(t *testing.T) {
	keys, stamps := "", ""
	for versions, e := range keysStore(t).histories() {
		if e != api.OK {
			t.Fatalf("%d", e)
		}
		keys += versions[0].Key
		for _, r := range versions {
			if r.Key != versions[0].Key {
				t.Errorf("a version of %q stands with those of %q", r.Key, versions[0].Key)
			}
			stamps += string(rune('0' + r.Stamp))
		}
		stamps += " "
	}
	if keys != "abcdefghijz" || stamps != "21 4321 321 21 21 21 21 21 21 21 3 " {
		t.Errorf("the keys are %s, their stamps %s", keys, stamps)
	}
}

// A byte that is wrong is told when it is read, and then nothing more is; so
// is nothing more where the range is ended.
func TestHistoriesEndAtAWrongByte(t *testing.T) {
	s := keysStore(t)
	text, _ := s.disk.Read(laid)
	s.disk.Flip(laid, strings.Index(text, "eee"), 1)
	keys := ""
	errors := 0
	for versions, e := range s.histories() {
		if e == api.OK {
			keys += versions[0].Key
			continue
		}
		if errors++; len(versions) != 0 || e != api.ErrCorrupt {
			t.Errorf("%d versions, %d", len(versions), e)
		}
	}
	// What stands in the wrong block tells whether d has more versions.
	if keys != "abc" && keys != "abcd" || errors != 1 {
		t.Errorf("keys %s and %d errors are told", keys, errors)
	}
	for _, e := range s.histories() {
		if e != api.OK {
			t.Errorf("%d", e)
		}
		break
	}
}

func TestHistoriesOfADeadDisk(t *testing.T) {
	s := keysStore(t)
	s.disk.Arm(1)
	s.disk.Sync(laid)
	n := 0
	for versions, e := range s.histories() {
		if n++; len(versions) != 0 || e != api.ErrDead {
			t.Errorf("%d versions, %d", len(versions), e)
		}
	}
	if n != 1 {
		t.Errorf("%d are told", n)
	}
}
