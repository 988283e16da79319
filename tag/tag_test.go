package tag

import (
	"math"
	"testing"

	"hydrant/api"
)

const (
	lastTag   = 4294967295
	lastPlace = 2147483646
)

// These are spelt out as the chapter does, so that they share no constant with the code.
var (
	someTags   = []uint32{0, 1, 2, 3, 255, 65535, 65536, 2147483647, 2147483648, 4294967294, lastTag}
	somePlaces = []int{-1, 0, 1, 2, 3, 4, 255, 65535, 65536, 1073741823, 1073741824, 2147483645, lastPlace}
	noPlaces   = []int{-2, -3, -2147483648, -4294967297, 2147483647, 2147483648, 4294967294, 4294967295, 4294967296, 1 << 62, math.MaxInt, math.MinInt}
)

// TestMake is P1.1, by words that are written out.
func TestMake(t *testing.T) {
	for _, x := range []struct {
		tag  uint32
		i    int
		want uint64
	}{
		{0, -1, 0},
		{0, 0, 1},
		{0, 1, 2},
		{0, lastPlace, 2147483647},
		{1, -1, 4294967296},
		{1, 0, 4294967297},
		{2, 3, 8589934596},
		{lastTag, -1, 18446744069414584320},
		{lastTag, 0, 18446744069414584321},
		{lastTag, lastPlace, 18446744071562067967},
	} {
		if w, e := Make(x.tag, x.i); w != x.want || e != api.OK {
			t.Errorf("P1.1: Make(%d, %d) = %d, %d; want %d, 0", x.tag, x.i, w, e, x.want)
		}
	}
}

// TestMakeNoPlace is P1.1: what is no place is ErrArg, and a zero word, whatever the tag.
func TestMakeNoPlace(t *testing.T) {
	for _, tag := range someTags {
		for _, i := range noPlaces {
			if w, e := Make(tag, i); w != 0 || e != api.ErrArg {
				t.Errorf("P1.1: Make(%d, %d) = %d, %d; want 0, 1", tag, i, w, e)
			}
		}
	}
}

// TestRead is P1.1: Tag and Index of any word, of those too that no Make told.
func TestRead(t *testing.T) {
	for _, x := range []struct {
		w   uint64
		tag uint32
		i   int
	}{
		{0, 0, -1},
		{1, 0, 0},
		{2147483647, 0, lastPlace},
		{2147483648, 0, 2147483647},
		{2147483649, 0, 2147483648},
		{4294967295, 0, 4294967294},
		{4294967296, 1, -1},
		{4294967297, 1, 0},
		{8589934591, 1, 4294967294},
		{8589934596, 2, 3},
		{9223372036854775807, 2147483647, 4294967294},
		{9223372036854775808, 2147483648, -1},
		{18446744069414584319, 4294967294, 4294967294},
		{18446744069414584320, lastTag, -1},
		{18446744073709551615, lastTag, 4294967294},
	} {
		if g := Tag(x.w); g != x.tag {
			t.Errorf("P1.1: Tag(%d) = %d; want %d", x.w, g, x.tag)
		}
		if i := Index(x.w); i != x.i {
			t.Errorf("P1.1: Index(%d) = %d; want %d", x.w, i, x.i)
		}
	}
}

// TestNext is P1.2, by words that are written out: of fresh ones, of the last tag, and of words that no Make told.
func TestNext(t *testing.T) {
	for _, x := range []struct {
		w    uint64
		i    int
		want uint64
	}{
		{0, -1, 4294967296},
		{0, 0, 4294967297},
		{1, 1, 4294967298},
		{5, -1, 4294967296},
		{8589934596, 3, 12884901892},
		{8589934596, lastPlace, 15032385535},
		{2147483648, 0, 4294967297},
		{4294967295, 0, 4294967297},
		{18446744069414584319, 0, 18446744069414584321},
		{18446744069414584320, -1, 0},
		{18446744069414584329, 2, 3},
		{18446744073709551615, 0, 1},
		{18446744073709551615, lastPlace, 2147483647},
	} {
		if w, e := Next(x.w, x.i); w != x.want || e != api.OK {
			t.Errorf("P1.2: Next(%d, %d) = %d, %d; want %d, 0", x.w, x.i, w, e, x.want)
		}
	}
}

// TestNextNoPlace is P1.2: what is no place is ErrArg, and a zero word, whatever the word was.
func TestNextNoPlace(t *testing.T) {
	for _, w := range []uint64{0, 1, 2147483648, 4294967295, 4294967296, 8589934596, 18446744069414584320, 18446744073709551615} {
		for _, i := range noPlaces {
			if got, e := Next(w, i); got != 0 || e != api.ErrArg {
				t.Errorf("P1.2: Next(%d, %d) = %d, %d; want 0, 1", w, i, got, e)
			}
		}
	}
}

// TestToldAgain is P1.3: what was made is told again, and no two of them are the same word.
func TestToldAgain(t *testing.T) {
	made := map[uint64]bool{}
	for _, tag := range someTags {
		for _, i := range somePlaces {
			w, e := Make(tag, i)
			if e != api.OK || Tag(w) != tag || Index(w) != i {
				t.Errorf("P1.3: Make(%d, %d) = %d, %d, of tag %d and place %d", tag, i, w, e, Tag(w), Index(w))
			}
			if made[w] {
				t.Errorf("P1.3: Make(%d, %d) = %d, which another tag and place have", tag, i, w)
			}
			made[w] = true
		}
	}
}

// TestWrittenAgain is P1.3: a word that is written again, of the same place or of another, has the tag behind it, so that only the whole round of tags leads back.
func TestWrittenAgain(t *testing.T) {
	for _, tag := range someTags {
		for _, i := range somePlaces {
			was, _ := Make(tag, i)
			for _, j := range somePlaces {
				w, e := Next(was, j)
				if e != api.OK || w == was || Tag(w) != tag+1 || Index(w) != j {
					t.Errorf("P1.3: Next(%d, %d) = %d, %d, of tag %d and place %d", was, j, w, e, Tag(w), Index(w))
				}
			}
		}
	}
}

// TestManyTimes is P1.3: words of one place that are written one behind the other, past the last tag too, are all different.
func TestManyTimes(t *testing.T) {
	for _, first := range []uint32{0, 65000, 2147483000, 4294966000} {
		seen := map[uint64]bool{}
		w, _ := Make(first, 3)
		for n := range uint32(70000) {
			if seen[w] || Tag(w) != first+n || Index(w) != 3 {
				t.Fatalf("P1.3: %d times behind tag %d: the word %d, seen before: %t", n, first, w, seen[w])
			}
			seen[w] = true
			w, _ = Next(w, 3)
		}
	}
}

// TestWholeRound is P1.3: behind the last tag the word of the first tag comes back, and not a step ahead of it.
func TestWholeRound(t *testing.T) {
	for _, i := range somePlaces {
		first, _ := Make(0, i)
		w, _ := Make(lastTag-1, i)
		w, _ = Next(w, i)
		if w == first || Tag(w) != lastTag {
			t.Errorf("P1.3: place %d: the word %d ahead of the end of the round", i, w)
		}
		if w, _ = Next(w, i); w != first {
			t.Errorf("P1.3: place %d: the word %d at the end of the round; want %d", i, w, first)
		}
	}
}
