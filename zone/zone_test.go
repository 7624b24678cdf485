package zone_test

import (
	"errors"
	"math"
	"slices"
	"testing"

	"plover/api"
	"plover/zone"
)

const m = api.MaxCoord

// pt is a point, or a move.
func pt(x, y int64) api.Point { return api.Point{X: x, Y: y} }

// pts are points, told by their coordinates.
func pts(ns ...int64) []api.Point {
	var l []api.Point
	for i := 0; i+1 < len(ns); i += 2 {
		l = append(l, pt(ns[i], ns[i+1]))
	}
	return l
}

// points are all points whose coordinates are of the list.
func points(ns ...int64) []api.Point {
	var l []api.Point
	for _, x := range ns {
		for _, y := range ns {
			l = append(l, pt(x, y))
		}
	}
	return l
}

// rc is a rectangle.
func rc(x1, y1, x2, y2 int64) api.Rect { return api.Rect{X1: x1, Y1: y1, X2: x2, Y2: y2} }

// box is a region of a rectangle alone.
func box(x1, y1, x2, y2 int64) api.Region { return api.Region{Rect: rc(x1, y1, x2, y2)} }

// shape is a region of a polygon alone, told by its coordinates.
func shape(ns ...int64) api.Region { return api.Region{Poly: pts(ns...)} }

// all is the widest rectangle that there is.
func all() api.Rect { return rc(-m, -m, m, m) }

// ways are all the ways to tell one region: a polygon from each vertex on, both ways round, or a rectangle with no polygon as nil, as empty, and as empty with points behind it.
func ways(g api.Region) []api.Region {
	var told []api.Region
	if len(g.Poly) == 0 {
		for _, none := range [][]api.Point{nil, {}, pts(9, 9, 8, 8, 7, 6)[:0]} {
			told = append(told, api.Region{Rect: g.Rect, Poly: none})
		}
		return told
	}
	for i := range g.Poly {
		l := slices.Concat(g.Poly[i:], g.Poly[:i])
		turned := slices.Clone(l)
		slices.Reverse(turned)
		told = append(told, api.Region{Rect: g.Rect, Poly: l}, api.Region{Rect: g.Rect, Poly: turned})
	}
	return told
}

// both are a rectangle's region, and polygons that have that box: one with its corners, and, if there is room, some with fewer of them, or none.
func both(r api.Rect) []api.Region {
	l := []api.Region{{Rect: r}}
	x, y := r.X1+(r.X2-r.X1)/2, r.Y1+(r.Y2-r.Y1)/2
	if r.X1 < r.X2 && r.Y1 < r.Y2 {
		l = append(l, shape(r.X1, r.Y1, r.X2, r.Y1, r.X2, r.Y2, r.X1, r.Y2), shape(r.X1, r.Y1, r.X2, r.Y1, r.X1, r.Y2), shape(r.X2, r.Y2, r.X1, r.Y2, r.X2, r.Y1))
	}
	if r.X1 < x && r.Y1 < y {
		l = append(l, shape(x, r.Y1, r.X2, y, x, r.Y2, r.X1, y))
	}
	return l
}

// outermost are coordinates that may not be: one beyond the bounds, further ones, the least and the greatest.
func outermost() []int64 {
	return []int64{math.MinInt64, math.MinInt64 + 1, -2*m - 1, -2 * m, -m - 1, m + 1, 2 * m, 2*m + 1, math.MaxInt64 - 1, math.MaxInt64}
}

// wrongPoints are points that may not be, by one coordinate or by both.
func wrongPoints() []api.Point {
	l := points(outermost()...)
	for _, n := range outermost() {
		l = append(l, pt(n, 0), pt(0, n), pt(m, n), pt(n, -m))
	}
	return l
}

// wrongRects are rectangles that may not be: sides turned about, a coordinate beyond.
func wrongRects() []api.Rect {
	l := []api.Rect{
		rc(1, 0, 0, 0), rc(0, 1, 0, 0), rc(1, 1, 0, 0), rc(4, 0, 0, 4), rc(0, 4, 4, 0), rc(4, 4, 0, 0),
		rc(m, -m, -m, m), rc(-m, m, m, -m), rc(m, m, -m, -m), rc(m, 0, m-1, 0), rc(0, -m+1, 0, -m),
	}
	for _, n := range outermost() {
		l = append(l, rc(n, 0, 0, 0), rc(0, n, 0, 0), rc(0, 0, n, 0), rc(0, 0, 0, n), rc(n, n, n, n))
		l = append(l, rc(-m, -m, n, n), rc(n, n, m, m), rc(n, -m, n, m), rc(-m, n, m, n))
		l = append(l, rc(n, -m, m, m), rc(-m, n, m, m), rc(-m, -m, n, m), rc(-m, -m, m, n))
	}
	return append(l, rc(math.MinInt64, math.MinInt64, math.MaxInt64, math.MaxInt64), rc(-m-1, -m-1, m+1, m+1))
}

// wrongs are regions that may not be: by their rectangle, by their polygon, or by having both.
func wrongs() []api.Region {
	l := []api.Region{
		// Too few points, one twice, all on one line, a spike, edges that cross, a point beyond.
		shape(1, 1), shape(1, 1, 2, 2), shape(1, 1, 1, 1, 2, 2), shape(1, 1, 2, 2, 3, 3), shape(0, 0, 8, 0, 4, 0, 4, 4), shape(0, 0, 4, 4, 4, 0, 0, 4),
		shape(-m-1, 0, 4, 0, 0, 4), shape(0, -m-1, 4, 0, 0, 4), shape(0, 0, m+1, 0, 0, 4), shape(0, 0, 4, 0, 0, m+1),
		// Too many.
		{Poly: bowl(65)}, {Poly: make([]api.Point, 100000)},
		// Both: a rectangle that has the polygon, one that is its box, one that is not zero by one number alone.
		{Rect: rc(0, 0, 9, 9), Poly: pts(1, 1, 4, 1, 1, 4)}, {Rect: rc(1, 1, 4, 4), Poly: pts(1, 1, 4, 1, 1, 4)},
		{Rect: rc(0, 0, 1, 0), Poly: pts(1, 1, 4, 1, 1, 4)}, {Rect: rc(0, 0, 0, 1), Poly: pts(1, 1, 4, 1, 1, 4)},
		{Rect: rc(-1, 0, 0, 0), Poly: pts(1, 1, 4, 1, 1, 4)}, {Rect: rc(0, -1, 0, 0), Poly: pts(1, 1, 4, 1, 1, 4)},
	}
	for _, r := range wrongRects() {
		l = append(l, api.Region{Rect: r}, api.Region{Rect: r, Poly: []api.Point{}}, api.Region{Rect: r, Poly: pts(0, 0, 4, 0, 0, 4)})
	}
	for _, w := range wrongPoints() {
		l = append(l, api.Region{Poly: append(pts(0, 0, 4, 0), w)}, api.Region{Poly: []api.Point{w, w, w}})
	}
	return l
}

// bowl are n points of a parabola: each of its turns is a left one, so it is simple, if it isn't too long.
func bowl(n int64) []api.Point {
	var l []api.Point
	for i := range n {
		l = append(l, pt(i, i*i))
	}
	return l
}

// wantZone fails if the zone isn't just that, or a move of it isn't safe, or one beside it is.
func wantZone(t *testing.T, g api.Region, cover, want api.Rect) {
	t.Helper()
	for _, x := range ways(g) {
		if got, err := zone.Of(x, cover); err != nil || got != want {
			t.Error(x, "in", cover, "may move by", got, err)
		}
	}
	xs, ys := edge(want.X1, want.X2), edge(want.Y1, want.Y2)
	for i, x := range xs {
		for j, y := range ys {
			// The first two of an edge's numbers are beside.
			if got, in := zone.Safe(g, cover, pt(x, y)), i > 1 && j > 1; got != in {
				t.Error(g, "in", cover, "by", x, y, "is safe:", got)
			}
		}
	}
}

// edge are the two numbers beside a span, then its ends, and some between.
func edge(from, to int64) []int64 {
	return []int64{from - 1, to + 1, from, to, from + (to-from)/2, min(from+1, to), max(to-1, from)}
}

// wantRefused fails if there is a zone, or a safe move, or another error.
func wantRefused(t *testing.T, g api.Region, cover api.Rect) {
	t.Helper()
	got, err := zone.Of(g, cover)
	if err != api.ErrArg || !errors.Is(err, api.ErrArg) || got != (api.Rect{}) {
		t.Error(g, "in", cover, "may move by", got, err)
	}
	l := pts(0, 0, 1, 0, 0, -1, -1, -1, m, m, -m, -m, m+1, 0, math.MinInt64, math.MinInt64, math.MaxInt64, math.MaxInt64)
	// What the differences would be, as they wrap round.
	l = append(l, pt(cover.X1-g.Rect.X1, cover.Y1-g.Rect.Y1), pt(cover.X2-g.Rect.X2, cover.Y2-g.Rect.Y2))
	for _, d := range l {
		if zone.Safe(g, cover, d) {
			t.Error(g, "in", cover, "by", d, "is safe")
		}
	}
}

// P17.1, Of and Safe: the example, and others, of both sorts.
func TestZone(t *testing.T) {
	for _, c := range []struct {
		g           api.Region
		cover, want api.Rect
	}{
		{box(1, 1, 2, 2), rc(0, 0, 9, 9), rc(-1, -1, 7, 7)},
		{box(1, 2, 4, 8), rc(-3, -5, 10, 20), rc(-4, -7, 6, 12)},
		{box(-9, -8, -6, -7), rc(-20, -30, 40, 50), rc(-11, -22, 46, 57)},
		{api.Region{}, rc(0, 0, 0, 0), rc(0, 0, 0, 0)},
		{api.Region{}, rc(-1, -2, 3, 4), rc(-1, -2, 3, 4)},
		// A line, and a point.
		{box(5, 1, 5, 3), rc(0, 0, 9, 9), rc(-5, -1, 4, 6)},
		{box(1, 5, 3, 5), rc(0, 0, 9, 9), rc(-1, -5, 6, 4)},
		{box(3, 4, 3, 4), rc(0, 0, 9, 9), rc(-3, -4, 6, 5)},
		{box(3, 4, 3, 4), rc(3, 0, 3, 9), rc(0, -4, 0, 5)},
		{box(3, 4, 3, 4), rc(0, 4, 9, 4), rc(-3, 0, 6, 0)},
		// Polygons: their boxes count, with or without points at the corners.
		{shape(1, 2, 4, 2, 1, 5), rc(0, 0, 10, 10), rc(-1, -2, 6, 5)},
		{shape(3, 0, 6, 3, 3, 6, 0, 3), rc(-1, -2, 9, 10), rc(-1, -2, 3, 4)},
		{shape(0, 0, 6, 0, 6, 6, 3, 2, 0, 6), rc(0, -3, 6, 7), rc(0, -3, 0, 1)},
		{shape(-7, -5, -1, -4, -3, -1), rc(-8, -8, 8, 8), rc(-1, -3, 9, 9)},
		{shape(2, 9, 5, -3, 7, 2, 6, 4), rc(0, -4, 10, 9), rc(-2, -1, 3, 0)},
		{api.Region{Poly: bowl(64)}, rc(-5, -6, 70, 4000), rc(-5, -6, 7, 31)},
		// The widest box: a zone's numbers go up to twice the bound, in which no point may be.
		{box(0, 0, 0, 0), all(), rc(-m, -m, m, m)},
		{box(1, -2, 3, 4), all(), rc(-m-1, -m+2, m-3, m-4)},
		{box(-m, -m, -m, -m), all(), rc(0, 0, 2*m, 2*m)},
		{box(m, m, m, m), all(), rc(-2*m, -2*m, 0, 0)},
		{box(-m, m, -m, m), all(), rc(0, -2*m, 2*m, 0)},
		{box(m, -m, m, -m), all(), rc(-2*m, 0, 0, 2*m)},
		{box(-m, -m, m, m), all(), rc(0, 0, 0, 0)},
		{box(-m, -m, m-1, m), all(), rc(0, 0, 1, 0)},
		{box(-m, -m+1, m, m), all(), rc(0, -1, 0, 0)},
		{box(-m, 0, m, 0), all(), rc(0, -m, 0, m)},
		{shape(-m, -m, m, -m, m, m, -m, m), all(), rc(0, 0, 0, 0)},
		{shape(m, m, m-1, m, m, m-1), all(), rc(-2*m+1, -2*m+1, 0, 0)},
		{shape(-m, -m, -m+1, -m, -m, -m+1), all(), rc(0, 0, 2*m-1, 2*m-1)},
		{shape(-m, 0, 0, -m, m, 0, 0, m), all(), rc(0, 0, 0, 0)},
	} {
		wantZone(t, c.g, c.cover, c.want)
	}
}

// boxes are some of regions: a point, lines, ordinary ones, some at the bounds but for one step.
func boxes() []api.Rect {
	return []api.Rect{
		rc(0, 0, 0, 0), rc(3, -4, 3, -4), rc(1, 2, 1, 9), rc(1, 2, 9, 2), rc(0, 0, 4, 3), rc(-7, -5, -2, -3), rc(-8, -9, 10, 11), rc(0, 0, 1, 1),
		rc(-m+1, -m+1, m-1, m-1), rc(m-1, m-1, m-1, m-1), rc(-m+1, m-1, -m+1, m-1), rc(m-5, -m+1, m-1, -m+9), rc(-m+1, -3, -m+2, 3),
	}
}

// P17.1, Of and Safe: in its own box it can't move at all.
func TestZoneOfItself(t *testing.T) {
	for _, r := range append(boxes(), all(), rc(m, m, m, m), rc(-m, -m, -m, -m), rc(-m, m, m, m)) {
		for _, g := range both(r) {
			wantZone(t, g, r, rc(0, 0, 0, 0))
		}
	}
}

// P17.1, Of and Safe: a box with one side in common, each of the four; and with all but one; by one step, and up to the bound.
func TestZoneAtASide(t *testing.T) {
	for _, r := range boxes() {
		for _, wide := range []api.Rect{rc(r.X1-1, r.Y1-1, r.X2+1, r.Y2+1), all()} {
			zx1, zy1, zx2, zy2 := wide.X1-r.X1, wide.Y1-r.Y1, wide.X2-r.X2, wide.Y2-r.Y2
			for _, g := range both(r) {
				wantZone(t, g, wide, rc(zx1, zy1, zx2, zy2))
				wantZone(t, g, rc(r.X1, wide.Y1, wide.X2, wide.Y2), rc(0, zy1, zx2, zy2))
				wantZone(t, g, rc(wide.X1, r.Y1, wide.X2, wide.Y2), rc(zx1, 0, zx2, zy2))
				wantZone(t, g, rc(wide.X1, wide.Y1, r.X2, wide.Y2), rc(zx1, zy1, 0, zy2))
				wantZone(t, g, rc(wide.X1, wide.Y1, wide.X2, r.Y2), rc(zx1, zy1, zx2, 0))
				wantZone(t, g, rc(wide.X1, r.Y1, r.X2, r.Y2), rc(zx1, 0, 0, 0))
				wantZone(t, g, rc(r.X1, wide.Y1, r.X2, r.Y2), rc(0, zy1, 0, 0))
				wantZone(t, g, rc(r.X1, r.Y1, wide.X2, r.Y2), rc(0, 0, zx2, 0))
				wantZone(t, g, rc(r.X1, r.Y1, r.X2, wide.Y2), rc(0, 0, 0, zy2))
			}
		}
	}
}

// P17.1, Of and Safe: a box that lacks its box by one, on each of the four sides, be the others wide or in common; or that lies apart.
func TestZoneOfWhatIsntHeld(t *testing.T) {
	for _, r := range boxes() {
		for _, g := range both(r) {
			for _, w := range []api.Rect{r, rc(r.X1-1, r.Y1-1, r.X2+1, r.Y2+1), all()} {
				for _, cover := range []api.Rect{
					rc(r.X1+1, w.Y1, max(w.X2, r.X1+1), w.Y2), rc(w.X1, r.Y1+1, w.X2, max(w.Y2, r.Y1+1)),
					rc(min(w.X1, r.X2-1), w.Y1, r.X2-1, w.Y2), rc(w.X1, min(w.Y1, r.Y2-1), w.X2, r.Y2-1),
					rc(r.X2+1, w.Y1, m, w.Y2), rc(w.X1, r.Y2+1, w.X2, m), rc(-m, w.Y1, r.X1-1, w.Y2), rc(w.X1, -m, w.X2, r.Y1-1),
					rc(r.X1+1, r.Y1+1, max(w.X2, r.X1+1), max(w.Y2, r.Y1+1)), rc(m, m, m, m), rc(-m, -m, -m, -m),
				} {
					wantRefused(t, g, cover)
				}
			}
		}
	}
}

// P17.1, Of and Safe: a box that is a point holds that point's region alone.
func TestZoneInAPoint(t *testing.T) {
	l := points(-m, -1, 0, 1, m)
	for _, p := range l {
		for _, q := range l {
			if p == q {
				wantZone(t, box(p.X, p.Y, p.X, p.Y), rc(q.X, q.Y, q.X, q.Y), rc(0, 0, 0, 0))
				continue
			}
			wantRefused(t, box(p.X, p.Y, p.X, p.Y), rc(q.X, q.Y, q.X, q.Y))
			wantRefused(t, box(min(p.X, q.X), min(p.Y, q.Y), max(p.X, q.X), max(p.Y, q.Y)), rc(q.X, q.Y, q.X, q.Y))
		}
	}
	wantRefused(t, shape(1, 2, 4, 2, 1, 5), rc(1, 2, 1, 2))
}

// P17.1, Of and Safe: a region that may not be, in whichever box, its own one too.
func TestZoneOfNone(t *testing.T) {
	for _, g := range wrongs() {
		for _, cover := range append(wrongRects(), all(), rc(0, 0, 9, 9), rc(0, 0, 0, 0), rc(m, m, m, m), g.Rect) {
			wantRefused(t, g, cover)
		}
	}
}

// P17.1, Of and Safe: a box that may not be, be the region's box between its sides or not.
func TestZoneInNone(t *testing.T) {
	for _, cover := range wrongRects() {
		for _, r := range append(boxes(), all(), rc(m, m, m, m), rc(-m, -m, -m, -m)) {
			for _, g := range both(r) {
				wantRefused(t, g, cover)
			}
		}
	}
	for _, r := range boxes() {
		for _, g := range both(r) {
			// One number alone is amiss.
			for _, n := range outermost() {
				for _, cover := range []api.Rect{rc(n, r.Y1, r.X2, r.Y2), rc(r.X1, n, r.X2, r.Y2), rc(r.X1, r.Y1, n, r.Y2), rc(r.X1, r.Y1, r.X2, n)} {
					wantRefused(t, g, cover)
				}
			}
			wantRefused(t, g, rc(r.X1+1, r.Y1, r.X1, r.Y2))
			wantRefused(t, g, rc(r.X1, r.Y1+1, r.X2, r.Y1))
			wantRefused(t, g, rc(r.X2, r.Y1, r.X1-1, r.Y2))
			wantRefused(t, g, rc(r.X1, r.Y2, r.X2, r.Y1-1))
		}
	}
}

// P17.1, Safe: by a point that may not be: safe just where the zone has it.
func TestSafeByWhatMayNotBe(t *testing.T) {
	for _, c := range []struct {
		g  api.Region
		in []api.Point
	}{
		{box(0, 0, 0, 0), nil},
		{box(1, 1, 2, 2), pts(-m-1, 0, 0, -m-1, -m-1, -m-1, -m-1, -m)},
		{box(-m, -m, m, m), nil},
		{box(-m, -m, -m, -m), append(points(m+1, 2*m), pts(0, m+1, m+1, 0, 0, 2*m, 2*m, 0, m, m+1, m, 2*m)...)},
		{box(m, m, m, m), append(points(-m-1, -2*m), pts(0, -m-1, -m-1, 0, 0, -2*m, -2*m, 0, -m-1, -m, -2*m, -m)...)},
		{shape(-m, m, -m+1, m, -m, m-1), pts(m+1, 0, m+1, -m, 0, -m-1, m+1, -m-1, m, -m-1)},
	} {
		for _, d := range wrongPoints() {
			if got, want := zone.Safe(c.g, all(), d), slices.Contains(c.in, d); got != want {
				t.Error(c.g, "by", d, "is safe:", got)
			}
		}
	}
	for _, d := range wrongPoints() {
		for _, r := range boxes() {
			for _, g := range both(r) {
				if zone.Safe(g, r, d) || zone.Safe(g, rc(max(r.X1-5, -m), max(r.Y1-5, -m), min(r.X2+5, m), min(r.Y2+5, m)), d) {
					t.Error(g, "by", d, "is safe")
				}
			}
		}
	}
}

// shifts are all shifts that may be.
func shifts() []int { return []int{24, 25, 26, 27, 28, 29, 30, 31} }

// wrongShifts are shifts that may not be: just beside, far beyond, and what would wrap round.
func wrongShifts() []int {
	return []int{math.MinInt, -1 << 32, -64, -31, -24, -1, 0, 1, 23, 32, 33, 63, 64, 65, 256 + 30, 1<<32 + 30, math.MaxInt}
}

// wantCover fails if the cover's box isn't just that.
func wantCover(t *testing.T, s int, g api.Region, want api.Rect) {
	t.Helper()
	for _, x := range ways(g) {
		if got, err := zone.Cover(s, x); err != nil || got != want {
			t.Error("shift", s, x, "has", got, err)
		}
	}
}

// P17.1, Cover: within a cell, across its edges, in the last column and row, of all there is.
func TestCover(t *testing.T) {
	for _, c := range []struct {
		s       int
		r, want api.Rect
	}{
		{24, rc(1, 2, 3, 4), rc(0, 0, 1<<24-1, 1<<24-1)},
		{24, rc(-9, -8, -7, -6), rc(-1<<24, -1<<24, -1, -1)},
		{24, rc(-2, -3, 4, 5), rc(-1<<24, -1<<24, 1<<24-1, 1<<24-1)},
		{24, rc(1<<24-1, 0, 1<<24, 2), rc(0, 0, 2<<24-1, 1<<24-1)},
		{24, rc(0, 1<<24-1, 2, 1<<24), rc(0, 0, 1<<24-1, 2<<24-1)},
		{24, rc(1<<24-2, 0, 1<<24-1, 2), rc(0, 0, 1<<24-1, 1<<24-1)},
		{24, rc(1<<24, 0, 1<<24+2, 2), rc(1<<24, 0, 2<<24-1, 1<<24-1)},
		{24, rc(0, 1<<24, 5<<24, 3<<24-1), rc(0, 1<<24, 6<<24-1, 3<<24-1)},
		{24, rc(-m, -m, -m+4, -m+3), rc(-m, -m, -m+1<<24-1, -m+1<<24-1)},
		{24, rc(m-4, m-4, m, m), rc(m-1<<24, m-1<<24, m, m)},
		{24, rc(m-4, m-4, m-1, m-1), rc(m-1<<24, m-1<<24, m-1, m-1)},
		{24, rc(m, 3, m, 5), rc(m, 0, m, 1<<24-1)},
		{24, rc(3, m, 5, m), rc(0, m, 1<<24-1, m)},
		{24, rc(m, m, m, m), rc(m, m, m, m)},
		{27, rc(5<<27, -1, 5<<27, -1), rc(5<<27, -1<<27, 6<<27-1, -1)},
		{29, rc(-1, 5, 0, 6), rc(-1<<29, 0, 1<<29-1, 1<<29-1)},
		{29, rc(5, -1, 6, 0), rc(0, -1<<29, 1<<29-1, 1<<29-1)},
		{30, rc(1, 2, 4, 5), rc(0, 0, m-1, m-1)},
		{30, rc(m, -5, m, -3), rc(m, -m, m, -1)},
		{30, rc(-5, m, -3, m), rc(-m, m, -1, m)},
		{30, rc(m-1, -5, m, 3), rc(0, -m, m, m-1)},
		{31, rc(0, 0, 0, 0), rc(-m, -m, m-1, m-1)},
		{31, rc(-m, -m, m-1, m-1), rc(-m, -m, m-1, m-1)},
		{31, rc(m-1, 0, m, 4), rc(-m, -m, m, m-1)},
		{31, rc(0, m-1, 4, m), rc(-m, -m, m-1, m)},
		{31, rc(m, 0, m, 3), rc(m, -m, m, m-1)},
		{31, rc(0, m, 3, m), rc(-m, m, m-1, m)},
		{31, rc(m, m, m, m), rc(m, m, m, m)},
	} {
		for _, g := range both(c.r) {
			wantCover(t, c.s, g, c.want)
		}
	}
	wantCover(t, 30, shape(1, 2, 4, 2, 1, 5), rc(0, 0, m-1, m-1))
	// Its box is in four cells, itself in three of them.
	wantCover(t, 24, shape(-5, -5, 1, -5, -5, 1), rc(-1<<24, -1<<24, 1<<24-1, 1<<24-1))
}

// P17.1, Cover: of all there is, at each shift that may be, and of the zero region.
func TestCoverOfAll(t *testing.T) {
	for _, s := range shifts() {
		for _, g := range both(all()) {
			wantCover(t, s, g, all())
		}
		if s < 31 {
			wantCover(t, s, api.Region{}, rc(0, 0, 1<<s-1, 1<<s-1))
			wantCover(t, s, shape(0, 0, 4, 0, 0, 4), rc(0, 0, 1<<s-1, 1<<s-1))
		}
	}
}

// wantNoCover fails if there is a cover's box, or another error.
func wantNoCover(t *testing.T, s int, g api.Region) {
	t.Helper()
	got, err := zone.Cover(s, g)
	if err != api.ErrArg || !errors.Is(err, api.ErrArg) || got != (api.Rect{}) {
		t.Error("shift", s, g, "has", got, err)
	}
}

// P17.1, Cover: ErrArg, of shifts that may not be, of regions that may not be, and of both.
func TestCoverOfNone(t *testing.T) {
	for _, s := range wrongShifts() {
		for _, r := range append(boxes(), all()) {
			for _, g := range both(r) {
				wantNoCover(t, s, g)
			}
		}
	}
	for _, g := range wrongs() {
		for _, s := range append(shifts(), wrongShifts()...) {
			wantNoCover(t, s, g)
		}
	}
}
