package delta

import (
	"math/bits"

	"strata/texts"
)

const (
	word  = 4  // bytes by which a piece of the base is found again
	tries = 16 // places that are looked at for a word: bounds the time on texts that repeat themselves
)

// find tells steps that make target of base. They are never longer, written,
// than a single step that puts all of target.
func find(base string, target string) []step {
	places := index(base)
	var steps []step
	done := 0
	for at := 0; at+word <= len(target); {
		ahead, take := places.longest(target, done, at)
		if !worth(take) {
			at++
			continue
		}
		steps = append(steps, putSteps(target[done:at-ahead])...)
		steps = append(steps, take)
		done = at - ahead + take.size
		at = done
	}
	return append(steps, putSteps(target[done:])...)
}

// worth says whether a step that takes is shorter than its bytes, were they
// put. The two bytes are for the head of a put that it cuts off from another.
func worth(take step) bool {
	return take.size > 0 && len(head(take))+2 <= take.size
}

// putSteps is the step that puts s, or none, if there is nothing to put.
func putSteps(s string) []step {
	if s == "" {
		return nil
	}
	return []step{putStep(s)}
}

// words tells the places at which each word stands in a base. Words share
// slots, for what is found is compared anyway; and each place is kept one
// higher, so that 0 says that there is none. There are about as many slots as
// places, and they are small: most bases are short, and Diff is asked often.
type words struct {
	base  string
	bits  int      // of a slot's number
	first []uint16 // by a slot
	next  []uint16 // by a place: the next one of the same slot
}

func index(base string) *words {
	n := bits.Len(uint(len(base)))
	w := &words{base: base, bits: n, first: make([]uint16, 1<<n), next: make([]uint16, len(base))}
	// From the end on, so that the first place of a word is tried first: this
	// finds a base that was not changed whole, whatever it repeats.
	for place := len(base) - word; place >= 0; place-- {
		i := w.slot(base[place:])
		w.next[place] = w.first[i]
		w.first[i] = uint16(place + 1)
	}
	return w
}

// slot spreads words over the slots: the factor, 2 to the power 32 cut in the
// golden section, carries all their bits into the highest ones.
func (w *words) slot(s string) int {
	n := uint32(s[0]) | uint32(s[1])<<8 | uint32(s[2])<<16 | uint32(s[3])<<24
	return int(n * 2654435761 >> (32 - w.bits))
}

// longest tells the longest step that takes what stands in target around at,
// and how many bytes of that are ahead of at (but none of those already done).
func (w *words) longest(target string, done int, at int) (int, step) {
	ahead, take := 0, step{}
	link := int(w.first[w.slot(target[at:])])
	for n := 0; link > 0 && n < tries; n++ {
		place := link - 1
		back := sameEnd(w.base[:place], target[done:at])
		size := back + texts.SameBegin(w.base[place:], target[at:])
		if size > take.size {
			ahead, take = back, takeStep(place-back, size)
		}
		link = int(w.next[place])
	}
	return ahead, take
}

// sameEnd is how many bytes two texts have in common at their end.
func sameEnd(a string, b string) int {
	n := 0
	for n < min(len(a), len(b)) && a[len(a)-1-n] == b[len(b)-1-n] {
		n++
	}
	return n
}
