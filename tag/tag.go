// Package tag is layer 1: see shared/doc/01-tag.md.
// Its words say a place, and how often they were written.
package tag

import "hydrant/api"

// none is the place that says that there is none. Words hold places as their distance from it, so that none itself is 0.
const none = iota - 1

const (
	greatest = 2147483646 // the greatest place
	perTag   = 4294967296 // how many words there are of one tag
)

// Make is P1.1: the word of a tag and a place.
func Make(tag uint32, i int) (uint64, api.Errno) {
	if !isPlace(i) {
		return 0, api.ErrArg
	}
	return uint64(tag)*perTag + uint64(i-none), api.OK
}

// Tag is P1.1: a word's tag.
func Tag(w uint64) uint32 { return uint32(w / perTag) }

// Index is P1.1: a word's place. Of a word that Make did not tell it may be no place.
func Index(w uint64) int { return int(w%perTag) + none }

// Next is P1.2: the word of a place that is written over w.
func Next(w uint64, i int) (uint64, api.Errno) {
	// The sum goes round by itself: behind the greatest tag comes 0.
	return Make(Tag(w)+1, i)
}

func isPlace(i int) bool { return none <= i && i <= greatest }
