package region_test

import (
	"errors"
	"math"
	"slices"
	"testing"

	"plover/api"
	"plover/region"
)

const m = api.MaxCoord

// pt is a point.
func pt(x, y int64) api.Point { return api.Point{X: x, Y: y} }

// pts are points, told by their coordinates.
func pts(ns ...int64) []api.Point {
	var l []api.Point
	for i := 0; i+1 < len(ns); i += 2 {
		l = append(l, pt(ns[i], ns[i+1]))
	}
	return l
}

// points are all points whose coordinates are of the list.
func points(ns ...int64) []api.Point {
	var l []api.Point
	for _, x := range ns {
		for _, y := range ns {
			l = append(l, pt(x, y))
		}
	}
	return l
}

// rc is a rectangle.
func rc(x1, y1, x2, y2 int64) api.Rect { return api.Rect{X1: x1, Y1: y1, X2: x2, Y2: y2} }

// box is a region of a rectangle alone.
func box(x1, y1, x2, y2 int64) api.Region { return api.Region{Rect: rc(x1, y1, x2, y2)} }

// shape is a region of a polygon alone, told by its coordinates.
func shape(ns ...int64) api.Region { return api.Region{Poly: pts(ns...)} }

// of is a region of a polygon alone.
func of(l []api.Point) api.Region { return api.Region{Poly: l} }

// begun is the polygon from vertex i on.
func begun(l []api.Point, i int) []api.Point { return slices.Concat(l[i:], l[:i]) }

// turned is the polygon turned round.
func turned(l []api.Point) []api.Point {
	l = slices.Clone(l)
	slices.Reverse(l)
	return l
}

// told are all the ways to tell one polygon: from each vertex on, both ways round.
func told(l []api.Point) [][]api.Point {
	all := [][]api.Point{slices.Clone(l), turned(l)}
	for i := 1; i < len(l); i++ {
		all = append(all, begun(l, i), turned(begun(l, i)))
	}
	return all
}

// ways are all the ways to tell one region: a polygon's, or a rectangle with no polygon as nil, as empty, and as empty with points behind it.
func ways(g api.Region) []api.Region {
	var all []api.Region
	if len(g.Poly) == 0 {
		for _, none := range [][]api.Point{nil, {}, pts(9, 9, 8, 8, 7, 6)[:0]} {
			all = append(all, api.Region{Rect: g.Rect, Poly: none})
		}
		return all
	}
	for _, l := range told(g.Poly) {
		all = append(all, api.Region{Rect: g.Rect, Poly: l})
	}
	return all
}

// shifted is what is moved without a look at what may be.
func shifted(l []api.Point, d api.Point) []api.Point {
	var s []api.Point
	for _, p := range l {
		s = append(s, pt(p.X+d.X, p.Y+d.Y))
	}
	return s
}

// movedBy is a region that may be, moved without a look at what may be.
func movedBy(g api.Region, d api.Point) api.Region {
	if len(g.Poly) > 0 {
		return of(shifted(g.Poly, d))
	}
	return box(g.Rect.X1+d.X, g.Rect.Y1+d.Y, g.Rect.X2+d.X, g.Rect.Y2+d.Y)
}

// bowl are n points of a parabola: each of its turns is a left one, so it is simple.
func bowl(n int64) []api.Point {
	var l []api.Point
	for i := range n {
		l = append(l, pt(i, i*i))
	}
	return l
}

// outermost are coordinates that may not be: one beyond the bounds, further ones, the least and the greatest.
func outermost() []int64 {
	return []int64{math.MinInt64, math.MinInt64 + 1, -2 * m, -m - 1, m + 1, 2 * m, math.MaxInt64 - 1, math.MaxInt64}
}

// wrongPoints are points that may not be, by one coordinate or by both.
func wrongPoints() []api.Point {
	l := points(outermost()...)
	for _, n := range outermost() {
		l = append(l, pt(n, 0), pt(0, n), pt(m, n), pt(n, -m))
	}
	return l
}

// rights are regions that may be, of both sorts, with their boxes.
func rights() []struct {
	g   api.Region
	box api.Rect
} {
	return []struct {
		g   api.Region
		box api.Rect
	}{
		{box(0, 0, 0, 0), rc(0, 0, 0, 0)},
		{box(0, 0, 4, 3), rc(0, 0, 4, 3)},
		{box(-7, -5, -2, -3), rc(-7, -5, -2, -3)},
		// Lines, and points.
		{box(1, 2, 1, 9), rc(1, 2, 1, 9)},
		{box(1, 2, 9, 2), rc(1, 2, 9, 2)},
		{box(5, -6, 5, -6), rc(5, -6, 5, -6)},
		// At the bounds.
		{box(-m, -m, m, m), rc(-m, -m, m, m)},
		{box(m, m, m, m), rc(m, m, m, m)},
		{box(-m, -m, -m, -m), rc(-m, -m, -m, -m)},
		{box(-m, m, -m, m), rc(-m, m, -m, m)},
		{box(m, -m, m, m), rc(m, -m, m, m)},
		{box(-m, -m, m, -m), rc(-m, -m, m, -m)},
		{box(m-1, -m, m, -m+1), rc(m-1, -m, m, -m+1)},
		// Polygons: some whose box begins at no coordinate of 0, or has no vertex at a corner.
		{shape(0, 0, 4, 0, 0, 4), rc(0, 0, 4, 4)},
		{shape(0, 0, 1, 0, 0, 1), rc(0, 0, 1, 1)},
		{shape(3, 2, 5, 1, 9, 8), rc(3, 1, 9, 8)},
		{shape(-7, -5, -1, -4, -3, -1), rc(-7, -5, -1, -1)},
		{shape(3, 0, 6, 3, 3, 6, 0, 3), rc(0, 0, 6, 6)},
		{shape(1, 1, 4, 1, 4, 3, 1, 3), rc(1, 1, 4, 3)},
		{shape(0, 0, 6, 0, 6, 6, 3, 2, 0, 6), rc(0, 0, 6, 6)},
		{shape(0, 0, 2, 0, 4, 0, 4, 4, 0, 4), rc(0, 0, 4, 4)},
		{shape(2, 9, 5, -3, 7, 2, 6, 4), rc(2, -3, 7, 9)},
		{of(bowl(64)), rc(0, 0, 63, 63*63)},
		{of(bowl(63)), rc(0, 0, 62, 62*62)},
		{of(shifted(bowl(64), pt(m-63, m-63*63))), rc(m-63, m-63*63, m, m)},
		{of(shifted(bowl(64), pt(-m, -m))), rc(-m, -m, -m+63, -m+63*63)},
		{shape(-m, -m, m, -m, m, m, -m, m), rc(-m, -m, m, m)},
		{shape(-m, -m, m, m-1, m, m), rc(-m, -m, m, m)},
		{shape(m, m, m-1, m, m, m-1), rc(m-1, m-1, m, m)},
		{shape(-m, 0, 0, -m, m, 0, 0, m), rc(-m, -m, m, m)},
		{shape(-m, m, -m+2, m, -m, m-2), rc(-m, m-2, -m+2, m)},
	}
}

// wrongRects are rectangles that may not be: sides turned about, a coordinate beyond.
func wrongRects() []api.Rect {
	l := []api.Rect{
		rc(1, 0, 0, 0), rc(0, 1, 0, 0), rc(1, 1, 0, 0), rc(4, 0, 0, 4), rc(0, 4, 4, 0), rc(4, 4, 0, 0),
		rc(m, -m, -m, m), rc(-m, m, m, -m), rc(m, m, -m, -m), rc(m, 0, m-1, 0), rc(0, -m+1, 0, -m),
	}
	for _, n := range outermost() {
		l = append(l, rc(n, 0, 0, 0), rc(0, n, 0, 0), rc(0, 0, n, 0), rc(0, 0, 0, n), rc(n, n, n, n))
		l = append(l, rc(-m, -m, n, n), rc(n, n, m, m), rc(n, -m, n, m), rc(-m, n, m, n))
	}
	return l
}

// notSimple are lists of points, of some at least, that are no simple polygons.
func notSimple() [][]api.Point {
	l := [][]api.Point{
		// Too few, of zero points too, and too many.
		pts(0, 0), pts(1, 1), pts(0, 0, 0, 0), pts(0, 0, 4, 0), pts(0, 0, 4, 4), bowl(65), bowl(66), bowl(128), bowl(1000),
		make([]api.Point, 3), make([]api.Point, 64), make([]api.Point, 100000),
		// A point twice: beside each other, last and first, apart.
		pts(0, 0, 0, 0, 4, 0), pts(0, 0, 4, 0, 0, 0), pts(0, 0, 4, 0, 4, 4, 0, 0), pts(0, 0, 4, 0, 4, 0, 0, 4),
		pts(0, 0, 4, 0, 4, 4, 0, 0, -4, 0, -4, -4),
		// On one line; a spike; edges that cross, or touch.
		pts(0, 0, 4, 0, 2, 0), pts(0, 0, 1, 1, 2, 2), pts(-m, -m, 0, 0, m, m), pts(0, 0, 8, 0, 4, 0, 4, 4),
		pts(0, 0, 4, 4, 4, 0, 0, 4), pts(0, 0, 4, 0, 0, 4, 4, 4), pts(0, 3, 6, 3, 1, 0, 3, 5, 5, 0),
		pts(-m, -m, m, m, m, -m, -m, m), pts(0, 0, 6, 0, 6, 6, 3, 0, 0, 6), pts(0, 0, 4, 0, 4, 4, 2, 0),
		// One point beyond, or all.
		pts(-m-1, 0, 4, 0, 0, 4), pts(0, -m-1, 4, 0, 0, 4), pts(0, 0, m+1, 0, 0, 4), pts(0, 0, 4, 0, 0, m+1),
		pts(-m-1, -m-1, m+1, -m-1, m+1, m+1, -m-1, m+1), shifted(bowl(64), pt(m-62, 0)), shifted(bowl(64), pt(0, -m-1)),
	}
	for _, w := range wrongPoints() {
		l = append(l, append(pts(0, 0, 4, 0), w), append(pts(0, 0, 4, 0, 4, 4), w), []api.Point{w}, []api.Point{w, w, w})
	}
	return append(l, wrongPoints(), wrongPoints()[:64])
}

// wrongs are regions that may not be: by their rectangle alone, by their polygon alone, and by a polygon beside a rectangle that isn't zero.
func wrongs() []api.Region {
	var l []api.Region
	for _, r := range wrongRects() {
		for _, none := range [][]api.Point{nil, {}, pts(0, 0, 4, 0, 0, 4)[:0]} {
			l = append(l, api.Region{Rect: r, Poly: none})
		}
		l = append(l, api.Region{Rect: r, Poly: pts(0, 0, 4, 0, 0, 4)}, api.Region{Rect: r, Poly: pts(0, 0, 4, 0)})
	}
	for _, x := range notSimple() {
		l = append(l, of(x), api.Region{Rect: rc(0, 0, 4, 4), Poly: x})
	}
	return append(l, beside()...)
}

// beside are polygons that may be, beside rectangles that may be and have something to them: in each of the four numbers alone, and in more.
func beside() []api.Region {
	var l []api.Region
	for _, c := range rights() {
		if len(c.g.Poly) == 0 {
			continue
		}
		for _, r := range []api.Rect{
			rc(-1, 0, 0, 0), rc(0, -1, 0, 0), rc(0, 0, 1, 0), rc(0, 0, 0, 1), rc(-m, 0, 0, 0), rc(0, -m, 0, 0), rc(0, 0, m, 0), rc(0, 0, 0, m),
			rc(1, 0, 1, 0), rc(0, 1, 0, 1), rc(1, 1, 1, 1), rc(-1, -1, 0, 0), rc(-m, -m, m, m), rc(-1, 0, 1, 0), rc(0, -1, 0, 1), c.box,
		} {
			l = append(l, api.Region{Rect: r, Poly: c.g.Poly})
		}
	}
	return l
}

// P16.1, May: a rectangle alone, a polygon alone.
func TestMay(t *testing.T) {
	for _, c := range rights() {
		for _, g := range ways(c.g) {
			if !region.May(g) {
				t.Error("may not be:", g)
			}
		}
	}
	if !region.May(api.Region{}) {
		t.Error("a zero one is the point of a zero rectangle")
	}
}

// P16.1, May: a rectangle that may not be, a polygon that isn't simple, or both at once.
func TestMayNot(t *testing.T) {
	for _, g := range wrongs() {
		if region.May(g) {
			t.Error("may be:", g)
		}
	}
	for _, g := range beside() {
		if g.Poly = nil; !region.May(g) {
			t.Error("its rectangle alone may not be:", g)
		}
	}
}

// P16.1, May: a polygon that isn't simple stays so in whichever way it is told.
func TestMayNotAnyWay(t *testing.T) {
	for _, l := range notSimple() {
		if len(l) > 10 {
			continue
		}
		for _, g := range ways(of(l)) {
			if region.May(g) {
				t.Error("may be:", g)
			}
		}
	}
}

// P16.1, Box: a rectangle's is itself, a polygon's has all its points.
func TestBox(t *testing.T) {
	for _, c := range rights() {
		for _, g := range ways(c.g) {
			if got, err := region.Box(g); err != nil || got != c.box {
				t.Error(g, "has", got, err)
			}
		}
	}
}

// P16.1, Box: ErrArg, and a zero rectangle, if it may not be.
func TestBoxOfNone(t *testing.T) {
	for _, g := range wrongs() {
		got, err := region.Box(g)
		if err != api.ErrArg || !errors.Is(err, api.ErrArg) || got != (api.Rect{}) {
			t.Error(g, "has", got, err)
		}
	}
}

// P16.1, In: within, without, on an edge, on a corner.
func TestIn(t *testing.T) {
	for _, c := range []struct {
		g       api.Region
		in, out []api.Point
	}{
		{box(0, 0, 4, 3), pts(0, 0, 4, 0, 0, 3, 4, 3, 2, 0, 2, 3, 0, 1, 4, 2, 1, 1, 3, 2), pts(-1, 0, 5, 0, 0, -1, 0, 4, -1, -1, 5, 4, 5, 2, 2, 4, 2, -1, -1, 2, -2, -2, m, m, -m, 1)},
		{box(1, 2, 1, 9), pts(1, 2, 1, 9, 1, 5), pts(0, 5, 2, 5, 1, 1, 1, 10, 0, 2, 2, 9)},
		{box(1, 2, 9, 2), pts(1, 2, 9, 2, 4, 2), pts(0, 2, 10, 2, 4, 1, 4, 3, 2, 1)},
		{box(5, -6, 5, -6), pts(5, -6), pts(4, -6, 6, -6, 5, -7, 5, -5, -6, 5, 0, 0)},
		{api.Region{}, pts(0, 0), pts(1, 0, 0, 1, -1, 0, 0, -1, m, m)},
		{box(-m, -m, m, m), pts(0, 0, -m, -m, m, m, -m, m, m, -m, m, 0, 0, -m), nil},
		{box(-m, -m, 0, 0), pts(-m, -m, 0, 0, -1, -1, 0, -m), pts(1, 0, 0, 1, m, m, m, -m)},
		{box(m, m, m, m), pts(m, m), pts(m-1, m, m, m-1, -m, -m)},
		{shape(0, 0, 4, 0, 0, 4), pts(0, 0, 4, 0, 0, 4, 2, 2, 3, 1, 1, 1, 0, 2, 1, 0), pts(3, 3, 3, 2, 2, 3, 4, 4, -1, 0, 5, 0, 0, 5, 0, -1, 4, 1, 1, 4, -1, -1)},
		{shape(3, 2, 5, 1, 9, 8), pts(3, 2, 5, 1, 9, 8, 5, 2, 6, 5, 4, 2), pts(0, 0, 3, 1, 9, 1, 3, 8, 4, 1, 6, 6, 7, 4)},
		{shape(3, 0, 6, 3, 3, 6, 0, 3), pts(3, 3, 0, 3, 6, 3, 3, 0, 3, 6, 1, 2, 2, 1, 5, 4, 1, 4), pts(0, 0, 6, 0, 6, 6, 0, 6, 1, 1, 5, 5, 2, 0, -1, 3, 7, 3)},
		{shape(0, 0, 6, 0, 6, 6, 3, 2, 0, 6), pts(3, 2, 3, 1, 0, 6, 6, 6, 0, 3, 6, 3, 1, 3, 5, 3, 1, 4), pts(3, 3, 3, 6, 1, 6, 5, 6, 2, 4, 4, 4, -1, 2, 7, 2)},
		{shape(0, 0, 2, 0, 4, 0, 4, 4, 0, 4), pts(1, 2, 2, 0, 4, 2, 0, 0, 4, 4), pts(-1, 2, 5, 2, 5, 0, 2, 5)},
		{shape(-m, -m, m, -m, m, m), pts(0, 0, m, m, m, 0, 0, -m, 1, 0), pts(0, 1, -m, m, -m, -m+1, m-1, m)},
		{shape(-m, -m, m, m-1, m, m), pts(-m, -m, m, m, m, m-1, 0, 0), pts(-m+1, -m, 0, 1, 1, 0, m-1, m-2, m-1, m)},
		{shape(m, m, m-1, m, m, m-1), pts(m, m, m-1, m, m, m-1), pts(m-1, m-1, m-2, m, 0, 0, -m, m)},
	} {
		for _, g := range ways(c.g) {
			for _, p := range c.in {
				if !region.In(g, p) {
					t.Error(p, "isn't in", g)
				}
			}
			for _, p := range append(c.out, wrongPoints()...) {
				if region.In(g, p) {
					t.Error(p, "is in", g)
				}
			}
		}
	}
}

// P16.1, In: nothing is in what may not be: neither its own points, nor those between, nor the corners of its rectangle.
func TestInNone(t *testing.T) {
	around := append(wrongPoints(), points(-m, -1, 0, 1, 2, 3, 4, 5, m)...)
	for _, g := range wrongs() {
		l := pts(g.Rect.X1, g.Rect.Y1, g.Rect.X2, g.Rect.Y2, g.Rect.X1, g.Rect.Y2, g.Rect.X2, g.Rect.Y1)
		if len(g.Poly) <= 100 {
			l = append(append(l, around...), g.Poly...)
		}
		for _, p := range l {
			if region.In(g, p) {
				t.Error(p, "is in", g)
			}
		}
	}
}

// wantMoved fails if a region, moved, isn't just that.
func wantMoved(t *testing.T, g api.Region, d api.Point, want api.Region) {
	t.Helper()
	got, err := region.Move(g, d)
	if err != nil || got.Rect != want.Rect || !slices.Equal(got.Poly, want.Poly) {
		t.Error(g, "by", d, "comes to", got, err)
	}
}

// P16.2: what is moved, of both sorts, up to the very bounds, is of that sort, its points in order.
func TestMove(t *testing.T) {
	for _, c := range []struct {
		g    api.Region
		d    api.Point
		want api.Region
	}{
		{box(0, 0, 4, 3), pt(0, 0), box(0, 0, 4, 3)},
		{box(0, 0, 4, 3), pt(1, -2), box(1, -2, 5, 1)},
		{box(-7, -5, -2, -3), pt(9, 100), box(2, 95, 7, 97)},
		{box(1, 2, 1, 9), pt(-5, 7), box(-4, 9, -4, 16)},
		{box(1, 2, 9, 2), pt(7, -5), box(8, -3, 16, -3)},
		{box(5, -6, 5, -6), pt(-5, 6), api.Region{}},
		{api.Region{}, pt(-3, 8), box(-3, 8, -3, 8)},
		{api.Region{}, pt(0, 0), api.Region{}},
		{box(0, 0, 4, 3), pt(m-4, m-3), box(m-4, m-3, m, m)},
		{box(0, 0, 4, 3), pt(-m, -m), box(-m, -m, -m+4, -m+3)},
		{box(-m, -m, m, m), pt(0, 0), box(-m, -m, m, m)},
		{box(-m, -m, 0, 0), pt(m, m), box(0, 0, m, m)},
		{box(-m, m, -m, m), pt(m, -m), api.Region{}},
		{box(m, m, m, m), pt(-m, -m), api.Region{}},
		{shape(0, 0, 4, 0, 0, 4), pt(0, 0), shape(0, 0, 4, 0, 0, 4)},
		{shape(0, 0, 4, 0, 0, 4), pt(-1, 5), shape(-1, 5, 3, 5, -1, 9)},
		{shape(0, 4, 4, 0, 0, 0), pt(-3, 7), shape(-3, 11, 1, 7, -3, 7)},
		{shape(0, 0, 6, 0, 6, 6, 3, 2, 0, 6), pt(-3, -2), shape(-3, -2, 3, -2, 3, 4, 0, 0, -3, 4)},
		{shape(0, 0, 4, 0, 0, 4), pt(m-4, m-4), shape(m-4, m-4, m, m-4, m-4, m)},
		{shape(0, 0, 4, 0, 0, 4), pt(-m, -m), shape(-m, -m, -m+4, -m, -m, -m+4)},
		{shape(-m, -m, 0, -m, 0, 0), pt(m, m), shape(0, 0, m, 0, m, m)},
		{shape(0, 0, m, 0, m, m), pt(-m, -m), shape(-m, -m, 0, -m, 0, 0)},
		{shape(-m, -m, m, -m, m, m, -m, m), pt(0, 0), shape(-m, -m, m, -m, m, m, -m, m)},
		{of(bowl(64)), pt(m-63, m-63*63), of(shifted(bowl(64), pt(m-63, m-63*63)))},
		{of(bowl(64)), pt(-m, -m), of(shifted(bowl(64), pt(-m, -m)))},
	} {
		wantMoved(t, c.g, c.d, c.want)
	}
	for _, g := range ways(box(1, 2, 3, 4)) {
		wantMoved(t, g, pt(1, 1), box(2, 3, 4, 5))
	}
}

// wantRefused fails if a move isn't refused by just this error, with a zero region beside it.
func wantRefused(t *testing.T, g api.Region, d api.Point, want api.Code) {
	t.Helper()
	got, err := region.Move(g, d)
	if err != want || !errors.Is(err, want) || got.Rect != (api.Rect{}) || len(got.Poly) != 0 {
		t.Error(g, "by", d, "comes to", got, err, "not", want)
	}
}

// P16.2: ErrArg, if it may not be, whatever the move is: one that may be or not, and even if what comes of it may be.
func TestMoveOfNone(t *testing.T) {
	for _, g := range wrongs() {
		for _, d := range pts(0, 0, 1, -1, -1, 1, m, m, -m, -m, m+1, 0, 0, -m-1, math.MaxInt64, 0, 0, math.MinInt64, math.MinInt64, math.MaxInt64) {
			wantRefused(t, g, d, api.ErrArg)
		}
	}
	for _, n := range outermost() {
		for _, d := range points(-n, 0) {
			wantRefused(t, box(n, 0, n, 0), d, api.ErrArg)
			wantRefused(t, box(0, n, 0, n), d, api.ErrArg)
			wantRefused(t, of(shifted(pts(0, 0, 4, 0, 0, 4), pt(n, n))), d, api.ErrArg)
		}
	}
}

// P16.2: ErrRange, if the move may not be, even if all that comes of it may be.
func TestMoveByNone(t *testing.T) {
	for _, d := range wrongPoints() {
		for _, c := range rights() {
			wantRefused(t, c.g, d, api.ErrRange)
		}
	}
	for _, d := range pts(m+1, 0, 0, m+1, m+1, m+1, 2*m-4, 0, 0, 2*m-4) {
		for _, g := range ways(box(-m, -m, -m+4, -m+4)) {
			wantRefused(t, g, d, api.ErrRange)
			wantRefused(t, box(m-4, m-4, m, m), pt(-d.X, -d.Y), api.ErrRange)
		}
		wantRefused(t, shape(-m, -m, -m+4, -m, -m, -m+4), d, api.ErrRange)
		wantRefused(t, shape(m, m, m-4, m, m, m-4), pt(-d.X, -d.Y), api.ErrRange)
	}
}

// P16.2: moves that bring it to the bound, and by one more, in X and in Y, both ways, and by both at once.
func TestMoveBeyond(t *testing.T) {
	for _, g := range []api.Region{
		box(-2, 0, 7, 9), shape(0, 0, 5, 1, 7, 9, -2, 6), shape(-2, 0, 7, 0, 7, 9, -2, 9), shape(-2, 9, 7, 8, 3, 0), shape(-2, 0, 5, 9, 7, 5),
	} {
		for _, c := range []struct{ to, beyond api.Point }{
			{pt(m-7, 0), pt(m-6, 0)}, {pt(2-m, 0), pt(1-m, 0)}, {pt(0, m-9), pt(0, m-8)}, {pt(0, -m), pt(0, -m-1)},
			{pt(m-7, m-9), pt(m-7, m-8)}, {pt(m-7, m-9), pt(m-6, m-9)}, {pt(2-m, -m), pt(1-m, -m)}, {pt(2-m, m-9), pt(2-m, m-8)},
			{pt(m-7, -m), pt(m-6, -m)}, {pt(m-7, -3), pt(m, -3)}, {pt(3, m-9), pt(3, m)}, {pt(2-m, 1), pt(-m, 1)}, {pt(0, 0), pt(m, m)},
		} {
			for _, x := range ways(g) {
				wantMoved(t, x, c.to, movedBy(x, c.to))
				wantRefused(t, x, c.beyond, api.ErrRange)
			}
		}
	}
	for _, d := range pts(1, 0, -1, 0, 0, 1, 0, -1, 1, 1, m, -m) {
		wantRefused(t, box(-m, -m, m, m), d, api.ErrRange)
		wantRefused(t, shape(-m, -m, m, -m, m, m, -m, m), d, api.ErrRange)
	}
}

// P16.2: one corner alone, or one point alone, at the bound: a step beyond is ErrRange, wherever that point stands.
func TestMoveOnePointBeyond(t *testing.T) {
	for _, c := range []struct {
		g api.Region
		d api.Point
	}{
		{box(0, 0, m, 0), pt(1, 0)}, {box(-m, 0, 0, 0), pt(-1, 0)}, {box(0, 0, 0, m), pt(0, 1)}, {box(0, -m, 0, 0), pt(0, -1)},
		{box(m, 0, m, 0), pt(1, 0)}, {box(0, -m, 0, -m), pt(0, -1)}, {box(-m, m, -m, m), pt(-1, 1)}, {box(m, m, m, m), pt(1, 1)},
		{shape(m, 3, 0, 5, 0, 0), pt(1, 0)}, {shape(-m, 3, 0, 5, 0, 0), pt(-1, 0)}, {shape(3, m, 5, 0, 0, 0), pt(0, 1)}, {shape(3, -m, 5, 0, 0, 0), pt(0, -1)},
		{of(append(bowl(63), pt(-m, 5000))), pt(-1, 0)}, {of(append(bowl(63), pt(0, m))), pt(0, 1)},
	} {
		for _, g := range ways(c.g) {
			back := pt(-c.d.X, -c.d.Y)
			wantMoved(t, g, back, movedBy(g, back))
			wantMoved(t, g, pt(0, 0), g)
			wantRefused(t, g, c.d, api.ErrRange)
		}
	}
}

// P16.1, Same: each is the same as itself in new memory, as one with no polygon told otherwise, and as no other one.
func TestSame(t *testing.T) {
	l := []api.Region{
		{}, box(1, 2, 3, 4), box(0, 2, 3, 4), box(1, 0, 3, 4), box(1, 2, 0, 4), box(1, 2, 3, 0), box(2, 1, 3, 4), box(1, 2, 4, 3), box(3, 4, 1, 2),
		box(1, 0, 0, 0), box(0, 1, 0, 0), box(0, 0, 1, 0), box(0, 0, 0, 1), box(-1, 0, 0, 0), box(0, 0, 4, 4), box(4, 4, 0, 0),
		box(-m, -m, m, m), box(-m, -m, m, m-1), box(m+1, 0, m+1, 0), box(math.MinInt64, 0, 0, 0), box(0, 0, 0, math.MaxInt64), box(0, 0, 0, math.MinInt64),
		// One polygon in all the orders that there are; other ones: a point of another X or Y, one more, one less, one twice.
		shape(0, 0, 4, 0, 0, 4), shape(4, 0, 0, 4, 0, 0), shape(0, 4, 0, 0, 4, 0), shape(0, 4, 4, 0, 0, 0), shape(4, 0, 0, 0, 0, 4), shape(0, 0, 0, 4, 4, 0),
		shape(1, 0, 4, 0, 0, 4), shape(0, 1, 4, 0, 0, 4), shape(0, 0, 5, 0, 0, 4), shape(0, 0, 4, 1, 0, 4), shape(0, 0, 4, 0, 1, 4), shape(0, 0, 4, 0, 0, 5), shape(0, 0, 0, 4, 0, 4),
		shape(0, 0, 4, 0, 4, 4, 0, 4), shape(0, 0, 2, 0, 4, 0, 0, 4), shape(0, 0, 4, 0, 0, 4, 0, 0), shape(0, 0, 4, 0, 0, 4, 0, 4), shape(0, 0, 4, 0), shape(0, 0), shape(0, 0, 0, 0),
		of(bowl(63)), of(bowl(64)), of(bowl(65)), of(turned(bowl(64))), of(begun(bowl(64), 1)), of(append(bowl(63), pt(0, 5000))), of(append(pts(0, 1), bowl(64)[1:]...)),
		// Both, and one of both.
		{Rect: rc(0, 0, 4, 4), Poly: pts(0, 0, 4, 0, 0, 4)}, {Rect: rc(0, 0, 4, 5), Poly: pts(0, 0, 4, 0, 0, 4)}, {Rect: rc(0, 0, 4, 4), Poly: pts(0, 0, 4, 0, 0, 5)},
		{Rect: rc(0, 0, 4, 4), Poly: pts(0, 0)}, {Rect: rc(1, 0, 0, 0), Poly: pts(0, 0, 4, 0, 0, 4)},
	}
	for i, a := range l {
		for j, b := range l {
			b.Poly = slices.Clone(b.Poly)
			if got := region.Same(a, b); got != (i == j) {
				t.Error(a, b, "are the same:", got)
			}
		}
		if len(a.Poly) > 0 {
			continue
		}
		for _, x := range ways(a) {
			for _, y := range ways(a) {
				if !region.Same(x, y) {
					t.Error(x, y, "aren't the same")
				}
			}
		}
	}
}

// P16.1, Same: by one bit of one number two aren't the same, of each number that there is.
func TestSameByOneBit(t *testing.T) {
	numbers := func(g *api.Region) []*int64 {
		l := []*int64{&g.Rect.X1, &g.Rect.Y1, &g.Rect.X2, &g.Rect.Y2}
		for i := range g.Poly {
			l = append(l, &g.Poly[i].X, &g.Poly[i].Y)
		}
		return l
	}
	for _, c := range rights() {
		other := api.Region{Rect: c.g.Rect, Poly: slices.Clone(c.g.Poly)}
		for _, n := range numbers(&other) {
			for bit := range 64 {
				*n ^= 1 << bit
				if region.Same(c.g, other) || region.Same(other, c.g) {
					t.Error(c.g, other, "are the same")
				}
				*n ^= 1 << bit
			}
		}
		if !region.Same(c.g, other) {
			t.Error(c.g, other, "aren't the same")
		}
	}
}

// P1, R3: no call panics, and all end, whatever they are given, with lists much too long too.
func TestAnything(t *testing.T) {
	long := of(make([]api.Point, 1<<20))
	ds := append(wrongPoints(), points(-m, 0, 1, m)...)
	for _, g := range append(wrongs(), long, of(bowl(100000))) {
		region.May(g)
		region.Box(g)
		region.Same(g, long)
		region.Same(long, g)
		for _, d := range ds {
			region.In(g, d)
			wantRefused(t, g, d, api.ErrArg)
		}
	}
	if !region.Same(long, of(make([]api.Point, 1<<20))) || region.Same(long, of(make([]api.Point, 1<<20+1))) {
		t.Error("long ones")
	}
}
