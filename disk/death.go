package disk

import "strata/api"

// Arm says when the disk is to die (P13).
func (d *Disk) Arm(n int) api.Errno {
	if n < 0 {
		return api.ErrRange
	}
	d.left = n
	return api.OK
}

// change is what a changing call answers whose own error is e. It may be the
// one at which the disk dies: so each such call asks it once, and does what it
// does only behind an OK.
func (d *Disk) change(e api.Errno) api.Errno {
	if d.dead {
		return api.ErrDead
	}
	if e != api.OK || d.left == 0 {
		return e
	}
	d.left--
	if d.left == 0 {
		d.dead = true
		return api.ErrDead
	}
	return api.OK
}

// Crash lets the disk die, and come up again (P13).
func (d *Disk) Crash(keep []int) {
	i := 0
	for _, f := range d.files.All() {
		n := 0
		if i < len(keep) {
			n = keep[i]
		}
		f.crash(n)
		i++
	}
	d.dead = false
	d.left = 0
}

// crash keeps of the bytes that are not synced as many as keep says, counted
// round.
func (f *file) crash(keep int) {
	loose := len(f.bytes) - f.synced
	f.synced += max(keep, 0) % (loose + 1)
	f.bytes = f.bytes[:f.synced]
}
