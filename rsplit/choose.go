package rsplit

import (
	"cmp"
	"math/bits"

	"plover/api"
	"plover/rect"
)

// cost is what it takes that a rectangle takes another one in.
type cost struct {
	overlap sum // stays 0, but at the leaves
	grows   int64
	area    int64
}

// sum is a sum of areas: 99 of them, each up to 2^62, are too much for 64 bits.
type sum struct{ high, low uint64 }

// Choose chooses one: P13.1.
func Choose(l []api.Rect, r api.Rect, leaves bool) (int, error) {
	if len(l) == 0 || !may(l) || !rect.May(r) {
		return 0, api.ErrArg
	}
	best, least := 0, costOf(l, 0, r, leaves)
	for i := 1; i < len(l); i++ {
		if c := costOf(l, i, r, leaves); compareCosts(c, least) < 0 {
			best, least = i, c
		}
	}
	return best, nil
}

// costOf is what it takes that the rectangle at a place takes r in.
func costOf(l []api.Rect, place int, r api.Rect, leaves bool) cost {
	c := cost{grows: rect.Grow(l[place], r), area: rect.Area(l[place])}
	if leaves {
		c.overlap = overlapGrows(l, place, r)
	}
	return c
}

// overlapGrows is by how much the overlap of the rectangle at a place with all others grows, if it takes r in.
func overlapGrows(l []api.Rect, place int, r api.Rect) sum {
	joined := rect.Join(l[place], r)
	var s sum
	for i, other := range l {
		if i != place {
			// The join has all of the one that it is made of, so that this is never below 0.
			s = s.plus(uint64(overlap(joined, other) - overlap(l[place], other)))
		}
	}
	return s
}

// plus is the sum with one more.
func (s sum) plus(n uint64) sum {
	low, carry := bits.Add64(s.low, n, 0)
	return sum{s.high + carry, low}
}

// compareCosts is below 0, if the first one is the lesser one.
func compareCosts(a, b cost) int {
	return cmp.Or(
		cmp.Compare(a.overlap.high, b.overlap.high),
		cmp.Compare(a.overlap.low, b.overlap.low),
		cmp.Compare(a.grows, b.grows),
		cmp.Compare(a.area, b.area),
	)
}
