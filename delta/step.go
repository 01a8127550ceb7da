package delta

import (
	"sort"

	"strata/api"
	"strata/texts"
	"strata/wire"
)

// step is one step of a change: it puts a text, or takes bytes of the base.
type step struct {
	put   string // empty, if bytes of the base are taken
	place int    // where in the base these begin
	size  int    // how many bytes it adds to what is made: one at least
}

func putStep(s string) step             { return step{put: s, size: len(s)} }
func takeStep(place int, size int) step { return step{place: place, size: size} }

func (s step) puts() bool { return s.put != "" }

// part is the step that makes size bytes of those that s makes, from at on.
func (s step) part(at int, size int) step {
	if s.puts() {
		return putStep(s.put[at : at+size])
	}
	return takeStep(s.place+at, size)
}

// leadsTo says whether one step can stand for s and next together.
func (s step) leadsTo(next step) bool {
	if s.puts() || next.puts() {
		return s.puts() && next.puts()
	}
	return s.place+s.size == next.place
}

// edit is a change that has been read.
type edit struct {
	steps []step
	ends  []int // how many bytes are made when each step is done
}

func (c edit) length() int {
	if len(c.ends) == 0 {
		return 0
	}
	return c.ends[len(c.ends)-1]
}

// cut is the steps that make just the bytes from at on, of what c makes.
func (c edit) cut(at int, size int) []step {
	var l []step
	for i := sort.SearchInts(c.ends, at+1); size > 0; i++ {
		s := c.steps[i]
		skip := at - (c.ends[i] - s.size)
		p := s.part(skip, min(size, s.size-skip))
		l = append(l, p)
		at += p.size
		size -= p.size
	}
	return l
}

// read tells the steps of a change, and whether s is one.
func read(s string) (edit, bool) {
	length, at, e := wire.Get(s, 0)
	if e != api.OK || length > api.MaxValue {
		return edit{}, false
	}
	var c edit
	for at < len(s) {
		next, behind, ok := readStep(s, at)
		// Told here, and not at the end: a sum of wrong sizes could grow beyond an int.
		if !ok || next.size > length-c.length() {
			return edit{}, false
		}
		c.ends = append(c.ends, c.length()+next.size)
		c.steps = append(c.steps, next)
		at = behind
	}
	return c, c.length() == length
}

// readStep reads the step that stands in s from at on, and tells the place
// behind it.
func readStep(s string, at int) (step, int, bool) {
	u, at, e := wire.Get(s, at)
	size := u / 2
	if e != api.OK || size == 0 {
		return step{}, 0, false
	}
	if u%2 == 0 {
		if size > len(s)-at {
			return step{}, 0, false
		}
		return putStep(s[at : at+size]), at + size, true
	}
	place, at, e := wire.Get(s, at)
	if e != api.OK || place > api.MaxNumber-size {
		return step{}, 0, false
	}
	return takeStep(place, size), at, true
}

// write is the change that has these steps. Steps that one can stand for
// become one: Compose's cuts leave many such.
func write(steps ...step) string {
	parts := []string{texts.Number(made(steps...))}
	for len(steps) > 0 {
		n := 1
		for n < len(steps) && steps[n-1].leadsTo(steps[n]) {
			n++
		}
		parts = append(parts, head(steps[:n]...))
		for _, s := range steps[:n] {
			parts = append(parts, s.put)
		}
		steps = steps[n:]
	}
	return texts.Join(parts...)
}

// head is the numbers that one step begins with, that stands for all of these.
func head(steps ...step) string {
	size := made(steps...)
	if steps[0].puts() {
		return texts.Number(2 * size)
	}
	return texts.Join(texts.Number(2*size+1), texts.Number(steps[0].place))
}

// made is how many bytes the steps make.
func made(steps ...step) int {
	n := 0
	for _, s := range steps {
		n += s.size
	}
	return n
}

// reach is how many bytes a base must have for the steps to fit it.
func reach(steps ...step) int {
	n := 0
	for _, s := range steps {
		if !s.puts() {
			n = max(n, s.place+s.size)
		}
	}
	return n
}

// text is what the steps make of a base that they fit.
func text(base string, steps ...step) string {
	parts := make([]string, 0, len(steps))
	for _, s := range steps {
		if s.puts() {
			parts = append(parts, s.put)
		} else {
			parts = append(parts, base[s.place:s.place+s.size])
		}
	}
	return texts.Join(parts...)
}
