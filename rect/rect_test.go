package rect_test

import (
	"math"
	"math/big"
	"slices"
	"testing"

	"plover/api"
	"plover/rect"
)

const m = api.MaxCoord

// pt is a point.
func pt(x, y int64) api.Point { return api.Point{X: x, Y: y} }

// rc is a rectangle.
func rc(x1, y1, x2, y2 int64) api.Rect { return api.Rect{X1: x1, Y1: y1, X2: x2, Y2: y2} }

// points are all points whose coordinates are of the list.
func points(ns []int64) []api.Point {
	var l []api.Point
	for _, x := range ns {
		for _, y := range ns {
			l = append(l, pt(x, y))
		}
	}
	return l
}

// rects are all rectangles with sides in order, their coordinates of the list: lines and single points too.
func rects(ns []int64) []api.Rect {
	var l []api.Rect
	for _, p := range points(ns) {
		for _, q := range points(ns) {
			if p.X <= q.X && p.Y <= q.Y {
				l = append(l, rc(p.X, p.Y, q.X, q.Y))
			}
		}
	}
	return l
}

// small are coordinates beside each other, so that every way that rectangles lie is among them.
func small() []int64 { return []int64{-1, 0, 1, 2} }

// edges are coordinates at, and beside, the edges of what may be.
func edges() []int64 { return []int64{-m, -m + 1, 0, m - 1, m} }

// beyond are coordinates that may not be, the outermost numbers among them.
func beyond() []int64 {
	return []int64{math.MinInt64, math.MinInt64 + 1, -2 * m, -m - 1, m + 1, 2 * m, math.MaxInt64 - 1, math.MaxInt64}
}

// wrongPoints are points that may not be, by one coordinate or by both.
func wrongPoints() []api.Point {
	l := points(beyond())
	for _, n := range beyond() {
		l = append(l, pt(n, 0), pt(0, n), pt(m, n), pt(n, -m))
	}
	return l
}

// wrongRects are rectangles that may not be: a coordinate beyond, or sides crossed.
func wrongRects() []api.Rect {
	l := []api.Rect{
		rc(1, 0, 0, 0), rc(0, 1, 0, 0), rc(1, 1, 0, 0), rc(m, -m, -m, m), rc(-m, m, m, -m), rc(m, m, -m, -m),
		rc(m, 0, m-1, 0), rc(0, -m+1, 0, -m),
	}
	for _, n := range beyond() {
		l = append(l, rc(n, 0, 0, 0), rc(0, n, 0, 0), rc(0, 0, n, 0), rc(0, 0, 0, n), rc(n, n, n, n))
		l = append(l, rc(-m, -m, n, n), rc(n, n, m, m), rc(n, -m, n, m), rc(-m, n, m, n))
	}
	return l
}

// slowIn tells whether a point is in a rectangle that may be: its coordinates, put in order
// among those of the sides, stand between them.
func slowIn(r api.Rect, p api.Point) bool {
	between := func(a, b, n int64) bool {
		l := []int64{n, b, a}
		slices.Sort(l)
		return l[0] == a && l[2] == b
	}
	return between(r.X1, r.X2, p.X) && between(r.Y1, r.Y2, p.Y)
}

// inAll are the points of a list that are in all of some rectangles.
func inAll(l []api.Point, rs ...api.Rect) []api.Point {
	var in []api.Point
	for _, p := range l {
		if !slices.ContainsFunc(rs, func(r api.Rect) bool { return !slowIn(r, p) }) {
			in = append(in, p)
		}
	}
	return in
}

// P2.1, May: both corners count, and both edges are within; lines and single points may be.
func TestMay(t *testing.T) {
	for _, r := range append(rects(edges()), rects(small())...) {
		if !rect.May(r) {
			t.Error("may not be:", r)
		}
	}
	for _, r := range wrongRects() {
		if rect.May(r) {
			t.Error("may be:", r)
		}
	}
}

// P2.1, In: the corners, the sides, within, beside; a line; a single point.
func TestIn(t *testing.T) {
	for _, c := range []struct {
		r    api.Rect
		p    api.Point
		want bool
	}{
		{rc(0, 0, 4, 3), pt(1, 2), true},
		{rc(0, 0, 4, 3), pt(0, 0), true},
		{rc(0, 0, 4, 3), pt(4, 3), true},
		{rc(0, 0, 4, 3), pt(0, 3), true},
		{rc(0, 0, 4, 3), pt(4, 0), true},
		{rc(0, 0, 4, 3), pt(2, 3), true},
		{rc(0, 0, 4, 3), pt(5, 3), false},
		{rc(0, 0, 4, 3), pt(4, 4), false},
		{rc(0, 0, 4, 3), pt(-1, 0), false},
		{rc(0, 0, 4, 3), pt(0, -1), false},
		{rc(2, 1, 2, 5), pt(2, 3), true},
		{rc(2, 1, 2, 5), pt(3, 3), false},
		{rc(1, 2, 5, 2), pt(3, 2), true},
		{rc(1, 2, 5, 2), pt(3, 1), false},
		{rc(7, 8, 7, 8), pt(7, 8), true},
		{rc(7, 8, 7, 8), pt(8, 7), false},
		{rc(-m, -m, m, m), pt(m, -m), true},
		{rc(-m, -m, m, m), pt(-m, m), true},
		{rc(-m, -m, m-1, m), pt(m, 0), false},
		{rc(-m, -m+1, m, m), pt(0, -m), false},
	} {
		if got := rect.In(c.r, c.p); got != c.want {
			t.Error(c.p, "in", c.r, got)
		}
	}
}

// P2.1, In: every small one, and those at the edges; points beyond the edges are in none.
func TestInEveryOne(t *testing.T) {
	for _, ns := range [][]int64{small(), edges()} {
		for _, r := range rects(ns) {
			for _, p := range points(append(ns, -3, 3)) {
				if got, want := rect.In(r, p), slowIn(r, p); got != want {
					t.Fatal(p, "in", r, got)
				}
			}
			for _, p := range wrongPoints() {
				if rect.In(r, p) {
					t.Fatal(p, "in", r)
				}
			}
		}
	}
}

// P2.1, Holds: itself, within, at a side, a line, a single point; not one that juts out.
func TestHolds(t *testing.T) {
	all := rc(-m, -m, m, m)
	for _, c := range []struct {
		a, b api.Rect
		want bool
	}{
		{rc(0, 0, 4, 4), rc(0, 0, 4, 4), true},
		{rc(0, 0, 4, 4), rc(1, 1, 3, 3), true},
		{rc(1, 1, 3, 3), rc(0, 0, 4, 4), false},
		{rc(0, 0, 4, 4), rc(0, 1, 4, 2), true},
		{rc(0, 0, 4, 4), rc(4, 0, 4, 4), true},
		{rc(0, 0, 4, 4), rc(4, 4, 4, 4), true},
		{rc(0, 0, 4, 4), rc(0, 0, 5, 4), false},
		{rc(0, 0, 4, 4), rc(0, 0, 4, 5), false},
		{rc(0, 0, 4, 4), rc(-1, 0, 4, 4), false},
		{rc(0, 0, 4, 4), rc(0, -1, 4, 4), false},
		{rc(0, 0, 4, 4), rc(4, 4, 5, 5), false},
		{rc(0, 0, 4, 4), rc(9, 9, 9, 9), false},
		{rc(2, 2, 2, 2), rc(2, 2, 2, 2), true},
		{rc(2, 2, 2, 2), rc(2, 2, 2, 3), false},
		{rc(0, 2, 4, 2), rc(1, 2, 4, 2), true},
		{rc(0, 2, 4, 2), rc(1, 1, 4, 2), false},
		{all, all, true},
		{all, rc(m, -m, m, -m), true},
		{rc(-m, -m, m, m-1), all, false},
		{rc(-m+1, -m, m, m), all, false},
	} {
		if got := rect.Holds(c.a, c.b); got != c.want {
			t.Error(c.a, "holds", c.b, got)
		}
	}
}

// P2.1, Holds: of every two small ones, whether no point of the one is left out.
func TestHoldsEverySmallOne(t *testing.T) {
	l := points(small())
	for _, a := range rects(small()) {
		for _, b := range rects(small()) {
			want := len(inAll(l, a, b)) == len(inAll(l, b))
			if got := rect.Holds(a, b); got != want {
				t.Fatal(a, "holds", b, got)
			}
		}
	}
}

// P2.1, Join: whichever is told first.
func TestJoin(t *testing.T) {
	for _, c := range []struct{ a, b, want api.Rect }{
		{rc(0, 0, 2, 2), rc(1, 1, 3, 3), rc(0, 0, 3, 3)},
		{rc(0, 0, 4, 4), rc(2, 3, 9, 5), rc(0, 0, 9, 5)},
		{rc(0, 0, 4, 4), rc(0, 0, 4, 4), rc(0, 0, 4, 4)},
		{rc(0, 0, 4, 4), rc(1, 1, 2, 2), rc(0, 0, 4, 4)},
		{rc(1, 5, 2, 6), rc(7, -3, 8, -2), rc(1, -3, 8, 6)},
		{rc(3, 3, 3, 3), rc(5, 4, 5, 4), rc(3, 3, 5, 4)},
		{rc(3, 3, 3, 3), rc(3, 3, 3, 3), rc(3, 3, 3, 3)},
		{rc(3, 0, 3, 9), rc(3, 9, 3, 12), rc(3, 0, 3, 12)},
		{rc(0, 0, 1, 1), rc(1, 1, 2, 2), rc(0, 0, 2, 2)},
		{rc(-m, -m, -m, -m), rc(m, m, m, m), rc(-m, -m, m, m)},
		{rc(-m, m, -m, m), rc(m, -m, m, -m), rc(-m, -m, m, m)},
	} {
		if got := rect.Join(c.a, c.b); got != c.want {
			t.Error(c.a, c.b, "join to", got)
		}
		if got := rect.Join(c.b, c.a); got != c.want {
			t.Error(c.b, c.a, "join to", got)
		}
	}
}

// P2.1, Join: of every two small ones the one with the fewest points, of all that have the points of both.
func TestJoinEverySmallOne(t *testing.T) {
	l, all := points(small()), rects(small())
	for _, a := range all {
		for _, b := range all {
			least, fewest := api.Rect{}, len(l)+1
			for _, c := range all {
				many := len(inAll(l, c))
				if many < fewest && rect.Holds(c, a) && rect.Holds(c, b) {
					least, fewest = c, many
				}
			}
			if got := rect.Join(a, b); got != least {
				t.Fatal(a, b, "join to", got, "not", least)
			}
		}
	}
}

// P2.1, Meet: whichever is told first; with a zero one where they lie apart.
func TestMeet(t *testing.T) {
	for _, c := range []struct {
		a, b, want api.Rect
		is         bool
	}{
		{rc(0, 0, 2, 2), rc(1, 1, 3, 3), rc(1, 1, 2, 2), true},
		{rc(0, 0, 4, 4), rc(2, 3, 9, 5), rc(2, 3, 4, 4), true},
		{rc(0, 0, 4, 4), rc(0, 0, 4, 4), rc(0, 0, 4, 4), true},
		{rc(0, 0, 4, 4), rc(1, 1, 3, 3), rc(1, 1, 3, 3), true},
		{rc(0, 2, 9, 3), rc(4, 0, 5, 9), rc(4, 2, 5, 3), true},
		// An edge, a corner, a line, a single point.
		{rc(0, 0, 4, 4), rc(4, 1, 8, 3), rc(4, 1, 4, 3), true},
		{rc(0, 0, 4, 4), rc(1, 4, 3, 8), rc(1, 4, 3, 4), true},
		{rc(0, 0, 4, 4), rc(4, 4, 8, 8), rc(4, 4, 4, 4), true},
		{rc(0, 0, 4, 4), rc(-4, 4, 0, 8), rc(0, 4, 0, 4), true},
		{rc(0, 0, 4, 4), rc(2, -9, 2, 9), rc(2, 0, 2, 4), true},
		{rc(0, 2, 4, 2), rc(1, 0, 1, 9), rc(1, 2, 1, 2), true},
		{rc(3, 3, 3, 3), rc(0, 0, 4, 4), rc(3, 3, 3, 3), true},
		{rc(0, 0, 0, 0), rc(0, 0, 0, 0), rc(0, 0, 0, 0), true},
		// Apart: by x, by y, by both.
		{rc(0, 0, 4, 4), rc(5, 0, 8, 4), api.Rect{}, false},
		{rc(0, 0, 4, 4), rc(0, 5, 4, 8), api.Rect{}, false},
		{rc(0, 0, 4, 4), rc(5, 5, 8, 8), api.Rect{}, false},
		{rc(0, 0, 4, 4), rc(-8, 1, -1, 2), api.Rect{}, false},
		{rc(3, 3, 3, 3), rc(3, 4, 3, 4), api.Rect{}, false},
		{rc(0, 2, 4, 2), rc(0, 3, 4, 3), api.Rect{}, false},
		// At the edges of what may be.
		{rc(-m, -m, m, m), rc(m, m, m, m), rc(m, m, m, m), true},
		{rc(-m, -m, 0, 0), rc(0, 0, m, m), rc(0, 0, 0, 0), true},
		{rc(-m, -m, m, m), rc(-m, 1, m, m), rc(-m, 1, m, m), true},
		{rc(-m, -m, m-1, m), rc(m, -m, m, m), api.Rect{}, false},
		{rc(-m, -m, m, -m), rc(-m, -m+1, m, m), api.Rect{}, false},
	} {
		if got, is := rect.Meet(c.a, c.b); got != c.want || is != c.is {
			t.Error(c.a, c.b, "meet in", got, is)
		}
		if got, is := rect.Meet(c.b, c.a); got != c.want || is != c.is {
			t.Error(c.b, c.a, "meet in", got, is)
		}
	}
}

// P2.1, Meet: of every two small ones just the points that both have.
func TestMeetEverySmallOne(t *testing.T) {
	l := points(small())
	for _, a := range rects(small()) {
		for _, b := range rects(small()) {
			both := inAll(l, a, b)
			got, is := rect.Meet(a, b)
			if is != (len(both) > 0) {
				t.Fatal(a, b, "meet", is)
			}
			if !is && got != (api.Rect{}) {
				t.Fatal(a, b, "apart, but", got)
			}
			if is && (!rect.May(got) || !slices.Equal(inAll(l, got), both)) {
				t.Fatal(a, b, "meet in", got)
			}
		}
	}
}

// P2.1, Area and Margin: a line has no area, a single point neither; the greatest one is exact.
func TestSizes(t *testing.T) {
	for _, c := range []struct {
		r            api.Rect
		area, margin int64
	}{
		{rc(0, 0, 4, 3), 12, 7},
		{rc(2, 3, 9, 5), 14, 9},
		{rc(-4, -3, 0, 0), 12, 7},
		{rc(-4, -3, 1, -1), 10, 7},
		{rc(5, 5, 5, 5), 0, 0},
		{rc(5, 1, 5, 9), 0, 8},
		{rc(1, 5, 9, 5), 0, 8},
		{rc(-m, -m, m, m), 1 << 62, 1 << 32},
		{rc(-m, -m, m, m-1), 1<<62 - 1<<31, 1<<32 - 1},
		{rc(-m, m, m, m), 0, 1 << 31},
		{rc(m, -m, m, m), 0, 1 << 31},
		{rc(-m, -m, -m, -m), 0, 0},
		{rc(m-1, m-1, m, m), 1, 2},
	} {
		if area, margin := rect.Area(c.r), rect.Margin(c.r); area != c.area || margin != c.margin {
			t.Error(c.r, "has", area, margin)
		}
	}
}

// exactArea works out an area with numbers of any size.
func exactArea(x1, y1, x2, y2 int64) *big.Int {
	x := new(big.Int).Sub(big.NewInt(x2), big.NewInt(x1))
	y := new(big.Int).Sub(big.NewInt(y2), big.NewInt(y1))
	return x.Mul(x, y)
}

// exactGrow works out by how much a has to grow to take b in, with numbers of any size.
func exactGrow(a, b api.Rect) *big.Int {
	xs, ys := []int64{a.X1, a.X2, b.X1, b.X2}, []int64{a.Y1, a.Y2, b.Y1, b.Y2}
	all := exactArea(slices.Min(xs), slices.Min(ys), slices.Max(xs), slices.Max(ys))
	return all.Sub(all, exactArea(a.X1, a.Y1, a.X2, a.Y2))
}

// P2.1, Area and Grow: just what exact numbers tell, at the edges too.
func TestSizesAreExact(t *testing.T) {
	for _, ns := range [][]int64{small(), edges()} {
		for _, a := range rects(ns) {
			if got := rect.Area(a); exactArea(a.X1, a.Y1, a.X2, a.Y2).Cmp(big.NewInt(got)) != 0 {
				t.Fatal(a, "has area", got)
			}
			for _, b := range rects(ns) {
				if got := rect.Grow(a, b); exactGrow(a, b).Cmp(big.NewInt(got)) != 0 {
					t.Fatal(a, "grows by", got, "for", b)
				}
			}
		}
	}
}

// P2.1, Grow: it is the first one that grows; by nothing, if it holds the other one.
func TestGrow(t *testing.T) {
	for _, c := range []struct {
		a, b api.Rect
		want int64
	}{
		{rc(0, 0, 4, 4), rc(2, 3, 9, 5), 29},
		{rc(2, 3, 9, 5), rc(0, 0, 4, 4), 31},
		{rc(0, 0, 4, 4), rc(1, 1, 2, 2), 0},
		{rc(1, 1, 2, 2), rc(0, 0, 4, 4), 15},
		{rc(0, 0, 4, 4), rc(0, 0, 4, 4), 0},
		{rc(0, 0, 0, 0), rc(3, 5, 3, 5), 15},
		{rc(0, 0, 4, 0), rc(9, 0, 9, 0), 0},
		{rc(0, 0, 4, 4), rc(4, 4, 4, 4), 0},
		{rc(0, 0, 4, 4), rc(4, 4, 5, 4), 4},
		{rc(-m, -m, -m, -m), rc(m, m, m, m), 1 << 62},
		{rc(-m, -m, m, m), rc(0, 0, 0, 0), 0},
		{rc(-m, -m, m, m-1), rc(m, m, m, m), 1 << 31},
	} {
		if got := rect.Grow(c.a, c.b); got != c.want {
			t.Error(c.a, "grows by", got, "for", c.b)
		}
	}
}

// P2.2: one point, points on a line, in whichever order, one more than once, at the edges.
func TestOf(t *testing.T) {
	for _, c := range []struct {
		l    []api.Point
		want api.Rect
	}{
		{[]api.Point{pt(3, -1), pt(-2, 7)}, rc(-2, -1, 3, 7)},
		{[]api.Point{pt(5, 6)}, rc(5, 6, 5, 6)},
		{[]api.Point{pt(-5, -6)}, rc(-5, -6, -5, -6)},
		{[]api.Point{pt(0, 0)}, rc(0, 0, 0, 0)},
		{[]api.Point{pt(5, 6), pt(5, 6), pt(5, 6)}, rc(5, 6, 5, 6)},
		{[]api.Point{pt(5, 6), pt(5, 9), pt(5, 7)}, rc(5, 6, 5, 9)},
		{[]api.Point{pt(9, 6), pt(5, 6)}, rc(5, 6, 9, 6)},
		{[]api.Point{pt(2, 3), pt(1, 9), pt(8, 4), pt(4, 2)}, rc(1, 2, 8, 9)},
		{[]api.Point{pt(-8, -4), pt(-2, -3), pt(-4, -2), pt(-3, -9)}, rc(-8, -9, -2, -2)},
		{[]api.Point{pt(m, -m), pt(-m, m)}, rc(-m, -m, m, m)},
		{[]api.Point{pt(m, m)}, rc(m, m, m, m)},
		{[]api.Point{pt(-m, -m), pt(-m+1, -m)}, rc(-m, -m, -m+1, -m)},
	} {
		given := slices.Clone(c.l)
		for _, l := range [][]api.Point{c.l, reversed(c.l)} {
			if got, is := rect.Of(l); !is || got != c.want {
				t.Error(l, "lie in", got, is)
			}
		}
		if !slices.Equal(c.l, given) {
			t.Error("changed to", c.l)
		}
	}
}

// reversed are the points, the last one first, in new memory.
func reversed(l []api.Point) []api.Point {
	l = slices.Clone(l)
	slices.Reverse(l)
	return l
}

// P2.2: of every three small points the least one that has them.
func TestOfEverySmallOne(t *testing.T) {
	l := points(small())
	for _, a := range l {
		for _, b := range l {
			for _, c := range l {
				xs, ys := []int64{a.X, b.X, c.X}, []int64{a.Y, b.Y, c.Y}
				want := rc(slices.Min(xs), slices.Min(ys), slices.Max(xs), slices.Max(ys))
				if got, is := rect.Of([]api.Point{a, b, c}); !is || got != want {
					t.Fatal(a, b, c, "lie in", got, is)
				}
			}
		}
	}
}

// wantNone fails if there is a rectangle, or one that isn't zero is told beside false.
func wantNone(t *testing.T, l ...api.Point) {
	t.Helper()
	if got, is := rect.Of(l); is || got != (api.Rect{}) {
		t.Error(l, "lie in", got, is)
	}
}

// P2.2: no points at all, be it nil or empty.
func TestOfNone(t *testing.T) {
	wantNone(t)
	wantNone(t, []api.Point{}...)
}

// P2.2: a point that may not be, wherever it stands.
func TestOfWrongPoints(t *testing.T) {
	for _, w := range wrongPoints() {
		wantNone(t, w)
		wantNone(t, w, pt(1, 2), pt(3, 4))
		wantNone(t, pt(1, 2), w, pt(3, 4))
		wantNone(t, pt(1, 2), pt(3, 4), w)
		wantNone(t, pt(m, m), w, pt(-m, -m))
		wantNone(t, w, w)
	}
}

// wantBetween fails if the join of two doesn't hold both, or their meet isn't held by both.
func wantBetween(t *testing.T, a, b api.Rect) {
	t.Helper()
	j := rect.Join(a, b)
	if !rect.May(j) || !rect.Holds(j, a) || !rect.Holds(j, b) {
		t.Fatal(a, b, "aren't held by", j)
	}
	if meet, is := rect.Meet(a, b); is && (!rect.May(meet) || !rect.Holds(a, meet) || !rect.Holds(b, meet)) {
		t.Fatal(a, b, "don't hold", meet)
	}
}

// P2.3: a join holds both, a meet is held by both, and has each point that is in both.
func TestJoinAndMeet(t *testing.T) {
	for _, ns := range [][]int64{small(), edges()} {
		l := append(points(ns), wrongPoints()...)
		for _, a := range rects(ns) {
			for _, b := range rects(ns) {
				wantBetween(t, a, b)
				meet, is := rect.Meet(a, b)
				for _, p := range l {
					if both := rect.In(a, p) && rect.In(b, p); both != (is && rect.In(meet, p)) {
						t.Fatal(p, "in both", both, "but", a, b, "meet in", meet, is)
					}
				}
			}
		}
	}
}

// P2.3: a rectangle that is in both is in the meet.
func TestMeetHolds(t *testing.T) {
	l := rects([]int64{-m, 0, 1, m})
	for _, a := range l {
		for _, b := range l {
			meet, is := rect.Meet(a, b)
			for _, c := range l {
				if both := rect.Holds(a, c) && rect.Holds(b, c); both != (is && rect.Holds(meet, c)) {
					t.Fatal(c, "in both", both, "but", a, b, "meet in", meet, is)
				}
			}
		}
	}
}

// P1: no call panics at rectangles that may not be; beside false a meet is a zero one.
func TestWrongRects(t *testing.T) {
	l := append(wrongRects(), rc(0, 0, 0, 0), rc(-m, -m, m, m))
	for _, a := range l {
		rect.Area(a)
		rect.Margin(a)
		for _, p := range append(wrongPoints(), pt(0, 0)) {
			rect.In(a, p)
		}
		for _, b := range l {
			rect.Holds(a, b)
			rect.Join(a, b)
			rect.Grow(a, b)
			if meet, is := rect.Meet(a, b); !is && meet != (api.Rect{}) {
				t.Fatal(a, b, "apart, but", meet)
			}
		}
	}
}
