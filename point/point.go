// Package point is layer 1: see shared/doc/01-point.md.
package point

import (
	"cmp"

	"plover/api"
)

// May tells whether a point may be: P1.1.
func May(p api.Point) bool { return inRange(p.X) && inRange(p.Y) }

// inRange takes no absolute value: that of the least int64 wraps round.
func inRange(n int64) bool { return -api.MaxCoord <= n && n <= api.MaxCoord }

// Turn tells how three points turn: P1.1.
//
// Of points that may be each product is at most 2^62 either way, so it is exact.
// They are compared, not subtracted, so that nothing hangs on how great their difference is.
func Turn(a, b, c api.Point) int {
	return cmp.Compare((b.X-a.X)*(c.Y-a.Y), (b.Y-a.Y)*(c.X-a.X))
}

// On tells whether a point is on a segment: P1.1.
func On(a, b, c api.Point) bool {
	return Turn(a, b, c) == 0 && inBox(a, b, c)
}

// inBox tells whether c is in the rectangle that has a and b as corners.
func inBox(a, b, c api.Point) bool {
	return between(a.X, b.X, c.X) && between(a.Y, b.Y, c.Y)
}

// between tells whether n is from a to b, or from b to a.
func between(a, b, n int64) bool {
	return a <= n && n <= b || b <= n && n <= a
}

// Cross tells whether two segments meet: P1.1.
//
// Segments that have a point in common either part each other's ends strictly,
// or an end of one is on the other one; the latter is also what is left
// of segments on one line, and of those that are a single point.
func Cross(a, b, c, d api.Point) bool {
	return parts(a, b, c, d) && parts(c, d, a, b) || touches(a, b, c, d)
}

// parts tells whether c and d lie on different sides of the line through a and b, neither on it.
func parts(a, b, c, d api.Point) bool {
	return Turn(a, b, c)*Turn(a, b, d) < 0
}

// touches tells whether an end of one segment is on the other one.
func touches(a, b, c, d api.Point) bool {
	return On(a, b, c) || On(a, b, d) || On(c, d, a) || On(c, d, b)
}

// Add moves a point: P1.2.
func Add(p, d api.Point) (api.Point, error) {
	// Both are looked at ahead of the sum: it could wrap round to a point that may be.
	if !May(p) || !May(d) {
		return api.Point{}, api.ErrRange
	}
	q := api.Point{X: p.X + d.X, Y: p.Y + d.Y}
	if !May(q) {
		return api.Point{}, api.ErrRange
	}
	return q, nil
}
