package poly_test

import (
	"errors"
	"math"
	"math/big"
	"math/rand"
	"slices"
	"testing"

	"plover/api"
	"plover/poly"
	"plover/rect"
)

const m = api.MaxCoord

// pt is a point.
func pt(x, y int64) api.Point { return api.Point{X: x, Y: y} }

// pts are points, told by their coordinates.
func pts(ns ...int64) []api.Point {
	var l []api.Point
	for i := 0; i+1 < len(ns); i += 2 {
		l = append(l, pt(ns[i], ns[i+1]))
	}
	return l
}

// points are all points whose coordinates are of the list.
func points(ns ...int64) []api.Point {
	var l []api.Point
	for _, x := range ns {
		for _, y := range ns {
			l = append(l, pt(x, y))
		}
	}
	return l
}

// wrongPoints are points that may not be, by one coordinate or by both, the outermost numbers among them.
func wrongPoints() []api.Point {
	ns := []int64{math.MinInt64, math.MinInt64 + 1, -2 * m, -m - 1, m + 1, 2 * m, math.MaxInt64 - 1, math.MaxInt64}
	l := points(ns...)
	for _, n := range ns {
		l = append(l, pt(n, 0), pt(0, n), pt(m, n), pt(n, -m))
	}
	return l
}

// begun is the polygon from vertex i on.
func begun(l []api.Point, i int) []api.Point { return slices.Concat(l[i:], l[:i]) }

// turned is the polygon turned round.
func turned(l []api.Point) []api.Point {
	l = slices.Clone(l)
	slices.Reverse(l)
	return l
}

// told are all the ways to tell one polygon: from each vertex on, both ways round.
func told(l []api.Point) [][]api.Point {
	all := [][]api.Point{slices.Clone(l), turned(l)}
	for i := 1; i < len(l); i++ {
		all = append(all, begun(l, i), turned(begun(l, i)))
	}
	return all
}

// shifted is a list whose points are moved, without a look at what may be.
func shifted(l []api.Point, d api.Point) []api.Point {
	var s []api.Point
	for _, p := range l {
		s = append(s, pt(p.X+d.X, p.Y+d.Y))
	}
	return s
}

// bowl are n points of a parabola: each of its turns is a left one, so it is simple.
func bowl(n int64) []api.Point {
	var l []api.Point
	for i := range n {
		l = append(l, pt(i, i*i))
	}
	return l
}

// comb has n points, an even number, and teeth from one edge of what may be to the other one.
func comb(n int64) []api.Point {
	l := pts(m, -m, -m, -m)
	for i := range n - 2 {
		y := int64(m)
		if i%2 == 1 {
			y = -m + 1
		}
		l = append(l, pt(-m+i*(2*m/(n-3)), y))
	}
	return l
}

// row has n points, all but one of them on one line.
func row(n int64) []api.Point {
	l := pts(0, 7)
	for i := range n - 1 {
		l = append(l, pt(i, 0))
	}
	return l
}

// star is one of n points at most round the origin, up to r away: by their directions in order it is simple,
// unless it leaves out more than half the way round.
func star(rnd *rand.Rand, n int, r int64) []api.Point {
	at := map[float64]api.Point{}
	for range n {
		p := pt(rnd.Int63n(2*r+1)-r, rnd.Int63n(2*r+1)-r)
		if p != pt(0, 0) {
			at[math.Atan2(float64(p.Y), float64(p.X))] = p
		}
	}
	var angles []float64
	for a := range at {
		angles = append(angles, a)
	}
	slices.Sort(angles)
	var l []api.Point
	for _, a := range angles {
		l = append(l, at[a])
	}
	return l
}

// simples are polygons that are simple, of many shapes and sizes.
func simples() [][]api.Point {
	l := [][]api.Point{
		pts(0, 0, 4, 0, 0, 4),
		pts(0, 0, 4, 0, 4, 4, 0, 4),
		pts(-7, -5, -1, -4, -3, -1),
		// Vertices in the midst of a side, at the begin and the end of the list too.
		pts(0, 0, 2, 0, 4, 0, 4, 4, 0, 4),
		pts(2, 0, 4, 0, 4, 2, 4, 4, 2, 4, 0, 4, 0, 2, 0, 0),
		pts(0, 0, 1, 1, 2, 2, 5, 0),
		// Notches, a fork, a spiral, a sliver.
		pts(0, 0, 6, 0, 6, 6, 3, 2, 0, 6),
		pts(0, 0, 6, 0, 6, 6, 3, 1, 0, 6),
		pts(0, 0, 8, 0, 8, 4, 6, 4, 6, 2, 5, 2, 5, 4, 3, 4, 3, 2, 2, 2, 2, 4, 0, 4),
		pts(0, 0, 7, 0, 7, 7, 1, 7, 1, 2, 5, 2, 5, 5, 3, 5, 3, 4, 4, 4, 4, 3, 2, 3, 2, 6, 6, 6, 6, 1, 0, 1),
		pts(0, 0, 9, 1, 8, 1),
		pts(0, 0, 3, 3, 6, 0, 3, 7),
		pts(0, 3, 2, 0, 4, 3, 6, 0, 8, 3, 4, 9),
		// At the edges of what may be.
		pts(-m, -m, m, -m, m, m, -m, m),
		pts(-m, -m, m, -m, m, m),
		pts(-m, -m, m, m, m-1, m),
		pts(-m, -m, m, m-1, m, m),
		pts(-m, m, 0, -m, m, m, 0, -m+1),
		pts(m, m, m-1, m, m, m-1),
		bowl(64), bowl(63), comb(64), comb(4), row(64), row(4),
	}
	rnd := rand.New(rand.NewSource(3))
	for _, r := range []int64{5, 40, 1000, m} {
		for range 25 {
			if s := star(rnd, 3+rnd.Intn(62), r); slowSimple(s) {
				l = append(l, s)
			}
		}
	}
	return l
}

// common tells how many points two segments have in common, each of two different ends: 0, 1, or 2 for many.
// It works out at which part of the one the other one is met, with numbers of any size.
func common(a, b, c, d api.Point) int {
	ab, cd, ac := way(a, b), way(c, d), way(a, c)
	det := area(ab, cd)
	if det.Sign() != 0 {
		if partly(area(ac, cd), det) && partly(area(ac, ab), det) {
			return 1
		}
		return 0
	}
	if area(ab, ac).Sign() != 0 {
		return 0
	}
	// On one line the greater of their lower ends is held against the lesser of their upper ones.
	lo := later(sooner(a, b), sooner(c, d))
	hi := sooner(later(a, b), later(c, d))
	switch {
	case lo == hi:
		return 1
	case sooner(lo, hi) == lo:
		return 2
	}
	return 0
}

// way is how to go from a to b.
func way(a, b api.Point) [2]*big.Int {
	return [2]*big.Int{new(big.Int).Sub(big.NewInt(b.X), big.NewInt(a.X)), new(big.Int).Sub(big.NewInt(b.Y), big.NewInt(a.Y))}
}

// area is that between two ways, with a sign.
func area(v, w [2]*big.Int) *big.Int {
	l, r := new(big.Int).Mul(v[0], w[1]), new(big.Int).Mul(v[1], w[0])
	return l.Sub(l, r)
}

// partly tells whether n / d is from 0 to 1.
func partly(n, d *big.Int) bool {
	q := new(big.Rat).SetFrac(n, d)
	return q.Sign() >= 0 && q.Cmp(big.NewRat(1, 1)) <= 0
}

// sooner is the one of two points that comes first, by x, and by y where that is the same.
func sooner(a, b api.Point) api.Point {
	if a.X < b.X || a.X == b.X && a.Y < b.Y {
		return a
	}
	return b
}

// later is the other one.
func later(a, b api.Point) api.Point {
	if sooner(a, b) == a {
		return b
	}
	return a
}

// slowSimple goes by the words of the document, but for points that may not be.
func slowSimple(l []api.Point) bool {
	if len(l) < 3 || len(l) > 64 {
		return false
	}
	for i := range l {
		if slices.Contains(l[:i], l[i]) {
			return false
		}
	}
	n := len(l)
	for i := range n {
		for j := range i {
			want := 0
			if j == i-1 || j == 0 && i == n-1 {
				want = 1
			}
			if common(l[i], l[(i+1)%n], l[j], l[(j+1)%n]) != want {
				return false
			}
		}
	}
	return true
}

// slowIn goes by the words of the document: an edge has the point in common, or the ray crosses edges
// an odd number of times, at places that are worked out with fractions of any size.
func slowIn(l []api.Point, p api.Point) bool {
	odd := false
	for i, a := range l {
		b := l[(i+1)%len(l)]
		if slowOn(a, b, p) {
			return true
		}
		if (a.Y > p.Y) == (b.Y > p.Y) {
			continue
		}
		ab, ap := way(a, b), way(a, p)
		x := new(big.Rat).SetFrac(new(big.Int).Mul(ap[1], ab[0]), ab[1])
		if x.Cmp(new(big.Rat).SetInt(ap[0])) > 0 {
			odd = !odd
		}
	}
	return odd
}

// slowOn tells whether p is on the segment of a and b: beside neither its line nor its ends.
func slowOn(a, b, p api.Point) bool {
	if area(way(a, b), way(a, p)).Sign() != 0 {
		return false
	}
	return sooner(sooner(a, b), p) == sooner(a, b) && later(later(a, b), p) == later(a, b)
}

// around tells how often the polygon goes round a point that is on no edge, either way: by the angles in which its edges are seen.
func around(l []api.Point, p api.Point) int {
	sum := 0.0
	for i, a := range l {
		b := l[(i+1)%len(l)]
		ax, ay, bx, by := float64(a.X-p.X), float64(a.Y-p.Y), float64(b.X-p.X), float64(b.Y-p.Y)
		sum += math.Atan2(ax*by-ay*bx, ax*bx+ay*by)
	}
	return int(math.Abs(math.Round(sum / (2 * math.Pi))))
}

// exactTwice works out twice an area with numbers of any size: by the stripes between the edges and the line below them all.
func exactTwice(l []api.Point) *big.Int {
	sum := new(big.Int)
	for i, a := range l {
		b := l[(i+1)%len(l)]
		wide := new(big.Int).Sub(big.NewInt(b.X), big.NewInt(a.X))
		high := new(big.Int).Add(big.NewInt(a.Y+m), big.NewInt(b.Y+m))
		sum.Add(sum, wide.Mul(wide, high))
	}
	return sum.Abs(sum)
}

// near are the points at, and beside, each vertex and each edge's middle, as far as they may be.
func near(l []api.Point) []api.Point {
	var all []api.Point
	for i, a := range l {
		b := l[(i+1)%len(l)]
		for _, c := range []api.Point{a, pt((a.X+b.X)/2, (a.Y+b.Y)/2)} {
			for _, d := range points(-1, 0, 1) {
				p := pt(c.X+d.X, c.Y+d.Y)
				if max(p.X, -p.X) <= m && max(p.Y, -p.Y) <= m {
					all = append(all, p)
				}
			}
		}
	}
	return all
}

// each calls f with each list of n points of a list.
func each(n int, of []api.Point, f func(l []api.Point)) {
	l := make([]api.Point, n)
	var put func(i int)
	put = func(i int) {
		if i == n {
			f(l)
			return
		}
		for _, p := range of {
			l[i] = p
			put(i + 1)
		}
	}
	put(0)
}

// P3.1, Simple: shapes of 3 to 64 points, vertices on one line, the edges of what may be.
func TestSimple(t *testing.T) {
	for _, l := range simples() {
		if !poly.Simple(l) {
			t.Error("isn't simple:", l)
		}
	}
	if n := len(bowl(64)); n != api.MaxVerts {
		t.Error(n)
	}
}

// notSimple are lists of points that may be, which are no simple polygons.
func notSimple() [][]api.Point {
	return [][]api.Point{
		// Too few, too many.
		nil, {}, pts(1, 1), pts(0, 0, 4, 0), bowl(65), bowl(66), bowl(1000), comb(66), row(65),
		// A point twice: beside each other, last and first, apart; thrice.
		pts(0, 0, 0, 0, 4, 0), pts(0, 0, 4, 0, 4, 0), pts(0, 0, 4, 0, 0, 0), pts(0, 0, 0, 0, 0, 0),
		pts(0, 0, 4, 0, 4, 4, 0, 0), pts(0, 0, 4, 0, 4, 0, 0, 4), pts(0, 0, 0, 0, 4, 0, 0, 4),
		pts(0, 0, 4, 0, 4, 4, 0, 0, -4, 0, -4, -4),
		pts(0, 0, 4, 0, 0, 0, 4, 0),
		// All on one line.
		pts(0, 0, 4, 0, 2, 0), pts(0, 0, 2, 2, 1, 1), pts(0, 0, 1, 1, 2, 2), pts(0, 3, 0, 1, 0, 2), pts(-m, -m, 0, 0, m, m),
		// Spikes: back along the edge, beyond its begin, up to its begin; of the last edge and the first one.
		pts(0, 0, 8, 0, 4, 0, 4, 4), pts(0, 0, 4, 0, -4, 0, 0, 4), pts(0, 0, 4, 0, 4, 4, 4, 9, 4, 2), pts(8, 0, 4, 0, 4, 4, 0, 0),
		pts(0, 0, 6, 0, 6, 6, 3, 6, 3, 9, 3, 6, 0, 6), pts(0, 0, 6, 0, 6, 6, 3, 6, 3, 9, 3, 7, 0, 6),
		pts(m, 0, -m, 0, m-1, 0, 0, m),
		// Edges that cross: a bow tie, a star, the last edge too.
		pts(0, 0, 4, 4, 4, 0, 0, 4), pts(0, 0, 4, 0, 0, 4, 4, 4), pts(0, 3, 6, 3, 1, 0, 3, 5, 5, 0),
		pts(-m, -m, m, m, m, -m, -m, m), pts(0, 0, 9, 0, 9, 9, 5, -1), pts(0, 0, 9, 0, 9, 9, 5, 4, 5, -1),
		pts(0, 0, 2, 0, 8, 8, 0, 8, 9, -1),
		// Edges that touch: a vertex on an edge, from within and from without; an edge along another one.
		pts(0, 0, 4, 0, 4, 4, 2, 0), pts(0, 0, 6, 0, 6, 6, 3, 0, 0, 6), pts(0, 0, 6, 0, 6, 6, 2, 3, 2, 0, 1, 3),
		pts(0, 0, 4, 0, 4, 4, 6, 2, 4, 1, 8, 1, 8, 9, 0, 9), pts(0, 0, 8, 0, 8, 4, 6, 4, 6, 0, 2, 0, 2, 4, 0, 4),
		pts(-m, -m, m, -m, m, m, 0, -m, -m, m),
		pts(0, 0, 9, 0, 9, 5, 3, 0),
	}
}

// P3.1, Simple: too few, too many, a point twice, spikes, edges that cross or touch.
func TestNotSimple(t *testing.T) {
	for _, l := range notSimple() {
		for _, x := range told(l) {
			if poly.Simple(x) {
				t.Error("is simple:", x)
			}
		}
	}
}

// P3.1, Simple: a point that may not be, wherever it stands, though all else is well.
func TestSimpleWrongPoints(t *testing.T) {
	for _, l := range [][]api.Point{
		pts(0, 0, m+1, 0, 0, 4), pts(0, 0, 4, 0, 0, m+1), pts(-m-1, 0, 4, 0, 0, 4), pts(0, -m-1, 4, 0, 0, 4),
		pts(-m-1, -m-1, m+1, -m-1, m+1, m+1, -m-1, m+1), shifted(bowl(64), pt(m, 0)),
	} {
		if !slowSimple(l) || poly.Simple(l) {
			t.Error("is simple:", l)
		}
	}
	for _, w := range wrongPoints() {
		for i := range 4 {
			l := pts(0, 0, 4, 0, 4, 4, 0, 4)
			l[i] = w
			if poly.Simple(l) {
				t.Error("is simple:", l)
			}
		}
		if poly.Simple(append(bowl(63), w)) {
			t.Error("is simple with", w)
		}
	}
}

// P3.1, Simple: of all lists of 3 and 4 points of a grid, and of 5 of a lesser one, just what the words say.
func TestSimpleEverySmallOne(t *testing.T) {
	many := 0
	look := func(l []api.Point) {
		want := slowSimple(l)
		if got := poly.Simple(l); got != want {
			t.Fatal(l, "simple", got)
		}
		if want {
			many++
		}
	}
	each(3, points(0, 1, 2, 3), look)
	each(4, points(-1, 0, 1), look)
	each(5, points(0, 1, 2)[:8], look)
	if many == 0 {
		t.Error("none is simple")
	}
}

// P3.1, Simple: of lists of up to 9 random points, close together, or far apart, just what the words say.
func TestSimpleRandomOnes(t *testing.T) {
	rnd := rand.New(rand.NewSource(1))
	is := map[bool]int{}
	for range 20000 {
		r := []int64{2, 4, 9, m}[rnd.Intn(4)]
		var l []api.Point
		for range 3 + rnd.Intn(7) {
			l = append(l, pt(rnd.Int63n(2*r+1)-r, rnd.Int63n(2*r+1)-r))
		}
		want := slowSimple(l)
		is[want]++
		if got := poly.Simple(l); got != want {
			t.Fatal(l, "simple", got)
		}
	}
	if is[true] < 1000 || is[false] < 1000 {
		t.Error(is)
	}
}

// P3.1, Simple: a vertex of a great one pushed onto an edge, or a step beside it.
func TestSimpleByAStep(t *testing.T) {
	for _, c := range []struct {
		l    []api.Point
		want bool
	}{
		{pts(-m, -m, m, m, -m, m, 0, 1), true},
		{pts(-m, -m, m, m, -m, m, 0, 0), false},
		{pts(-m, -m, m, m, -m, m, 0, -1), false},
		{pts(-m, -m, m, m-1, -m, m, m-1, m-1), true},
		{pts(-m, -m, m, m-1, -m, m, m-1, m-2), false},
		{pts(-m, -m, m, m-1, m, m, -m, -m+1), true},
		{pts(-m, -m, m, m, m, m-1, -m, -m+1), false},
	} {
		for _, x := range told(c.l) {
			if got := poly.Simple(x); got != c.want {
				t.Error(x, "simple", got)
			}
		}
	}
}

// P3.1, In: within, without, on an edge, at a vertex; rays through vertices and along edges.
func TestIn(t *testing.T) {
	notch := pts(0, 0, 6, 0, 6, 6, 3, 2, 0, 6)
	fork := pts(0, 0, 8, 0, 8, 4, 6, 4, 6, 2, 5, 2, 5, 4, 3, 4, 3, 2, 2, 2, 2, 4, 0, 4)
	kite := pts(3, 0, 6, 3, 3, 6, 0, 3)
	zigzag := pts(0, 3, 2, 0, 4, 3, 6, 0, 8, 3, 4, 9)
	dotted := pts(0, 0, 2, 0, 4, 0, 4, 2, 4, 4, 0, 4)
	for _, c := range []struct {
		l       []api.Point
		in, out []api.Point
	}{
		{pts(0, 0, 4, 0, 0, 4), pts(1, 1, 2, 2, 0, 0, 4, 0, 0, 4, 3, 1, 0, 2, 1, 0), pts(3, 3, -1, 0, 5, 0, 0, 5, 0, -1, 3, 2, -1, 2, -9, 4, 9, 4)},
		// The ray goes through the notch's ground, or along the line of its tops.
		{notch, pts(3, 2, 1, 2, 5, 2, 1, 3, 0, 6, 6, 6, 0, 3, 3, 0), pts(3, 3, -1, 2, 7, 2, 3, 6, -1, 6, 7, 6, 1, 6, 5, 6, -1, 0, 7, 0)},
		// It goes along edges with teeth to one side, and to both.
		{fork, pts(1, 4, 4, 4, 7, 4, 2, 2, 5, 2, 4, 2, 1, 1, 4, 3, 1, 3, 7, 3), pts(-1, 4, -1, 2, -1, 0, 9, 0, 9, 2, 9, 4, 4, 5)},
		{fork, pts(2, 3, 3, 3, 5, 3, 6, 3), pts(9, 3, -1, 3)},
		// It goes through the left and the right one of the corners, the upper one, and the lower one.
		{kite, pts(3, 3, 1, 3, 0, 3, 6, 3, 3, 0, 3, 6, 2, 2, 1, 2), pts(-1, 3, 7, 3, -1, 0, 2, 0, 4, 0, -1, 6, 2, 6, 4, 6, 1, 1, 5, 5)},
		{zigzag, pts(4, 3, 1, 3, 6, 3, 8, 3, 2, 0, 6, 0, 2, 1), pts(-1, 3, 9, 3, -1, 0, 3, 0, 4, 0, 7, 0, 4, 2, 4, 1)},
		// It goes through vertices in the midst of a side.
		{dotted, pts(1, 2, 2, 0, 4, 2, 3, 2, 0, 2, 1, 0, 2, 4), pts(-1, 2, 5, 2, -1, 0, 5, 0, -1, 4, 5, 4)},
		// At the edges of what may be.
		{pts(-m, -m, m, -m, m, m), pts(0, 0, m, m, m, 0, 0, -m, 1, 0, m-1, m-1), pts(0, 1, -m, m, -m, -m+1, m-1, m)},
		{pts(-m, -m, m, m-1, m, m), pts(-m, -m, m, m, 0, 0), pts(-m+1, -m, 0, 1, 1, 0, m-1, m-2, m-1, m)},
		{pts(-m, -m, m, -m, m, m, -m, m), pts(0, 0, -m, 0, m, 0, 0, m, 0, -m, m, m, m-1, -m+1), nil},
		{pts(m, m, m-1, m, m, m-1), pts(m, m, m-1, m, m, m-1), pts(m-1, m-1, m-2, m, 0, 0, -m, m)},
	} {
		for _, l := range told(c.l) {
			for _, p := range c.in {
				if !poly.In(l, p) {
					t.Error(p, "isn't in", l)
				}
			}
			for _, p := range c.out {
				if poly.In(l, p) {
					t.Error(p, "is in", l)
				}
			}
		}
	}
}

// P3.1, In: of all simple ones of 3 and 4 points of a grid, and all points of it and beside it,
// just what the words say, and what going round says.
func TestInEverySmallOne(t *testing.T) {
	look := func(l []api.Point) {
		if !poly.Simple(l) {
			return
		}
		for _, p := range points(-1, 0, 1, 2, 3, 4, 5) {
			wantIn(t, l, p)
		}
	}
	each(3, points(0, 2, 3, 4), look)
	each(4, points(0, 2, 4), look)
}

// wantIn fails if In tells otherwise than the slower ways.
func wantIn(t *testing.T, l []api.Point, p api.Point) {
	t.Helper()
	want := slowIn(l, p)
	onEdge := false
	for i, a := range l {
		onEdge = onEdge || slowOn(a, l[(i+1)%len(l)], p)
	}
	if !onEdge && want != (around(l, p) == 1) {
		t.Fatal(p, l, "the slow ways differ")
	}
	if got := poly.In(l, p); got != want {
		t.Fatal(p, "in", got, l)
	}
}

// P3.1, In: of ones of up to 64 vertices, the points beside edges and vertices, at the edges of what may be too.
func TestInIsExact(t *testing.T) {
	for _, l := range simples() {
		for _, p := range append(near(l), points(-m, -1, 0, 1, m)...) {
			if got, want := poly.In(l, p), slowIn(l, p); got != want {
				t.Fatal(p, "in", got, l)
			}
		}
	}
}

// P3.1, Twice: triangles, notches, whichever way round; the greatest one is exact.
func TestTwice(t *testing.T) {
	for _, c := range []struct {
		l    []api.Point
		want uint64
	}{
		{pts(0, 0, 4, 0, 0, 4), 16},
		{pts(0, 0, 1, 0, 0, 1), 1},
		{pts(-1, -1, -2, -1, -1, -2), 1},
		{pts(0, 0, 4, 0, 4, 3, 0, 3), 24},
		{pts(0, 0, 2, 0, 4, 0, 4, 4, 0, 4), 32},
		{pts(0, 0, 6, 0, 6, 6, 3, 2, 0, 6), 48},
		{pts(5, 5, 8, 5, 8, 6, 6, 6, 6, 9, 5, 9), 12},
		{pts(-m, -m, m, -m, m, m, -m, m), 1 << 63},
		{pts(-m, -m, m, -m, m, m-1, -m, m), 1<<63 - 1<<31},
		{pts(-m, -m, m, -m, m, m, m-1, m, -m, m), 1 << 63},
		{pts(-m, -m, m, -m, m, m-1, m-1, m, -m, m), 1<<63 - 1},
		{pts(-m, -m, m, -m, m, m), 1 << 62},
		{pts(-m, -m, m, m-1, m, m), 1 << 31},
		{pts(m, m, m-1, m, m, m-1), 1},
	} {
		for _, l := range told(c.l) {
			if got := poly.Twice(l); got != c.want {
				t.Error(l, "has", got, "not", c.want)
			}
		}
	}
}

// P3.1, Twice: just what exact numbers tell, of up to 64 vertices.
func TestTwiceIsExact(t *testing.T) {
	for _, l := range simples() {
		if got := poly.Twice(l); new(big.Int).SetUint64(got).Cmp(exactTwice(l)) != 0 {
			t.Error(l, "has", got, "not", exactTwice(l))
		}
	}
}

// gcd is the greatest number that divides both.
func gcd(a, b int64) int64 {
	for b != 0 {
		a, b = b, a%b
	}
	return max(a, -a)
}

// P3.1, In and Twice: by Pick's rule twice the area is twice the points that are in it, less those on edges, less 2.
func TestAreaByPoints(t *testing.T) {
	for _, l := range simples() {
		box, _ := rect.Of(l)
		if rect.Area(box) > 10000 {
			continue
		}
		in, edge := int64(0), int64(0)
		for x := box.X1; x <= box.X2; x++ {
			for y := box.Y1; y <= box.Y2; y++ {
				if poly.In(l, pt(x, y)) {
					in++
				}
			}
		}
		for i, a := range l {
			b := l[(i+1)%len(l)]
			edge += gcd(b.X-a.X, b.Y-a.Y)
		}
		if got := poly.Twice(l); int64(got) != 2*in-edge-2 {
			t.Error(l, "has", got, "and", in, edge)
		}
	}
}

// P3.2: each point is moved, in order, up to the very edge of what may be; nothing handed in is changed.
func TestMove(t *testing.T) {
	for _, c := range []struct {
		l    []api.Point
		d    api.Point
		want []api.Point
	}{
		{pts(0, 0, 4, 0, 0, 4), pt(1, -1), pts(1, -1, 5, -1, 1, 3)},
		{pts(0, 0, 4, 0, 0, 4), pt(0, 0), pts(0, 0, 4, 0, 0, 4)},
		{pts(0, 4, 4, 0, 0, 0), pt(-3, 7), pts(-3, 11, 1, 7, -3, 7)},
		{pts(0, 0, 6, 0, 6, 6, 3, 2, 0, 6), pt(-3, -2), pts(-3, -2, 3, -2, 3, 4, 0, 0, -3, 4)},
		{pts(0, 0, 4, 0, 0, 4), pt(m-4, m-4), pts(m-4, m-4, m, m-4, m-4, m)},
		{pts(0, 0, 4, 0, 0, 4), pt(-m, -m), pts(-m, -m, -m+4, -m, -m, -m+4)},
		{pts(-m, -m, 0, -m, 0, 0), pt(m, m), pts(0, 0, m, 0, m, m)},
		{pts(0, 0, m, 0, m, m), pt(-m, -m), pts(-m, -m, 0, -m, 0, 0)},
		{pts(-m, -m, m, -m, m, m, -m, m), pt(0, 0), pts(-m, -m, m, -m, m, m, -m, m)},
		{pts(-m, -m, m, -m, 0, m-1), pt(0, 1), pts(-m, -m+1, m, -m+1, 0, m)},
		{bowl(64), pt(m-63, m-63*63), shifted(bowl(64), pt(m-63, m-63*63))},
		{bowl(64), pt(-m, -m), shifted(bowl(64), pt(-m, -m))},
	} {
		given := slices.Clone(c.l)
		if got, err := poly.Move(c.l, c.d); err != nil || !slices.Equal(got, c.want) {
			t.Error(c.l, "by", c.d, "comes to", got, err)
		}
		if !slices.Equal(c.l, given) {
			t.Error("changed to", c.l)
		}
	}
}

// wantRefused fails if a move isn't refused by just this error, with no points beside it.
func wantRefused(t *testing.T, l []api.Point, d api.Point, want api.Code) {
	t.Helper()
	if got, err := poly.Move(l, d); err != want || !errors.Is(err, want) || len(got) != 0 {
		t.Error(l, "by", d, "comes to", got, err, "not", want)
	}
}

// P3.2: what isn't simple is refused by ErrArg, whatever the move is.
func TestMoveNotSimple(t *testing.T) {
	l := notSimple()
	for _, w := range wrongPoints() {
		l = append(l, append(pts(0, 0, 4, 0), w), append([]api.Point{w}, pts(4, 0, 0, 4)...))
	}
	for _, x := range l {
		for _, d := range []api.Point{pt(0, 0), pt(1, -1), pt(m, m), pt(m+1, 0), pt(0, math.MinInt64)} {
			wantRefused(t, x, d, api.ErrArg)
		}
	}
}

// P3.2: a move by what may not be is ErrRange, even if all points would be such that may be.
func TestMoveByWrongPoints(t *testing.T) {
	for _, d := range wrongPoints() {
		wantRefused(t, pts(0, 0, 4, 0, 0, 4), d, api.ErrRange)
		wantRefused(t, bowl(64), d, api.ErrRange)
	}
	wantRefused(t, pts(-m, -m, -m+4, -m, -m, -m+4), pt(m+1, 0), api.ErrRange)
	wantRefused(t, pts(-m, -m, -m+4, -m, -m, -m+4), pt(0, 2*m-4), api.ErrRange)
	wantRefused(t, pts(m, m, m-4, m, m, m-4), pt(-m-1, -m-1), api.ErrRange)
}

// P3.2: a move by a step beyond what may be is ErrRange, whichever point it is that goes there.
func TestMoveBeyond(t *testing.T) {
	for _, l := range told(pts(0, 0, 5, 1, 7, 9, -2, 6)) {
		for _, c := range []struct{ to, beyond api.Point }{
			{pt(m-7, 0), pt(m-6, 0)}, {pt(2-m, 0), pt(1-m, 0)},
			{pt(0, m-9), pt(0, m-8)}, {pt(0, -m), pt(0, -m-1)},
			{pt(m-7, m-9), pt(m-7, m-8)}, {pt(2-m, -m), pt(1-m, -m)},
		} {
			if got, err := poly.Move(l, c.to); err != nil || !slices.Equal(got, shifted(l, c.to)) {
				t.Error(l, "by", c.to, "comes to", got, err)
			}
			wantRefused(t, l, c.beyond, api.ErrRange)
		}
		wantRefused(t, l, pt(m, m), api.ErrRange)
		wantRefused(t, l, pt(-m, 0), api.ErrRange)
	}
	for _, d := range pts(1, 0, -1, 0, 0, 1, 0, -1, m, -m) {
		wantRefused(t, pts(-m, -m, m, -m, m, m, -m, m), d, api.ErrRange)
	}
}

// P3.3: what Move tells shares no memory with what it was given, nor with what it tells next; not even behind its end.
func TestNewMemory(t *testing.T) {
	for _, d := range pts(0, 0, 1, 2) {
		room := append(pts(0, 0, 4, 0, 0, 4), pts(8, 8, 9, 9)...)
		l := room[:3]
		a, errA := poly.Move(l, d)
		b, errB := poly.Move(l, d)
		if errA != nil || errB != nil {
			t.Fatal(errA, errB)
		}
		for i := range a {
			a[i] = pt(77, 77)
		}
		_ = append(a, pt(66, 66))
		if want := shifted(pts(0, 0, 4, 0, 0, 4), d); !slices.Equal(b, want) {
			t.Error("the other answer is", b)
		}
		if want := pts(0, 0, 4, 0, 0, 4, 8, 8, 9, 9); !slices.Equal(room, want) {
			t.Error("what was given is", room)
		}
		l[0] = pt(55, 55)
		if b[0] != d {
			t.Error("the answer is", b)
		}
	}
}

// P3.3 and R2: no call changes what it is given.
func TestNothingIsChanged(t *testing.T) {
	for _, l := range append(simples(), notSimple()...) {
		given := slices.Clone(l)
		poly.Simple(l)
		poly.In(l, pt(1, 1))
		poly.Twice(l)
		poly.Move(l, pt(1, 1))
		if !slices.Equal(l, given) {
			t.Error(given, "is changed to", l)
		}
	}
}

// P3.4: each vertex is in it, and so is each point of an edge.
func TestVerticesAreIn(t *testing.T) {
	for _, l := range simples() {
		for i, a := range l {
			if !poly.In(l, a) {
				t.Error(a, "isn't in", l)
			}
			b := l[(i+1)%len(l)]
			n := gcd(b.X-a.X, b.Y-a.Y)
			for _, k := range []int64{1, n / 2, n - 1, n} {
				if p := pt(a.X+(b.X-a.X)/n*k, a.Y+(b.Y-a.Y)/n*k); !poly.In(l, p) {
					t.Error(p, "isn't in", l)
				}
			}
		}
	}
}

// P3.4: what is in it is in its rectangle.
func TestInIsInTheRectangle(t *testing.T) {
	for _, l := range simples() {
		box, _ := rect.Of(l)
		for _, p := range append(near(l), points(-m, -9, -1, 0, 1, 9, m)...) {
			if poly.In(l, p) && !rect.In(box, p) {
				t.Error(p, "is in", l)
			}
		}
		for _, x := range []int64{-m, box.X1 - 1, box.X2 + 1, m} {
			for _, y := range []int64{-m, box.Y1 - 1, box.Y1, box.Y2, box.Y2 + 1, m} {
				if p := pt(x, y); poly.In(l, p) && !rect.In(box, p) {
					t.Error(p, "is in", l)
				}
			}
		}
	}
}

// P3.4: moved alike a point stays in, or out; the polygon stays simple, and as great; and back again it is what it was.
func TestMovedAlike(t *testing.T) {
	for _, l := range simples() {
		for _, d := range pts(1, 0, 0, -1, -3, 5, 1000, -1000, m-100, 100-m, -m/2, m/3) {
			moved, err := poly.Move(l, d)
			if err != nil {
				continue
			}
			if !poly.Simple(moved) || poly.Twice(moved) != poly.Twice(l) {
				t.Error(l, "by", d, "comes to", moved)
			}
			if back, err := poly.Move(moved, pt(-d.X, -d.Y)); err != nil || !slices.Equal(back, l) {
				t.Error(l, "comes back as", back, err)
			}
			for _, p := range near(l) {
				q := pt(p.X+d.X, p.Y+d.Y)
				if max(q.X, -q.X, q.Y, -q.Y) <= m && poly.In(l, p) != poly.In(moved, q) {
					t.Error(p, "in", l, "but not alike by", d)
				}
			}
		}
	}
}

// P3.4: from whichever vertex on, and turned round, it is the same.
func TestToldOtherwise(t *testing.T) {
	for _, l := range simples() {
		beside := near(l)[:min(36, 18*len(l))]
		twice := poly.Twice(l)
		for _, x := range told(l) {
			if !poly.Simple(x) || poly.Twice(x) != twice {
				t.Error(l, "isn't the same as", x)
			}
			for _, p := range beside {
				if poly.In(x, p) != poly.In(l, p) {
					t.Error(p, "in", l, "but not alike in", x)
				}
			}
		}
	}
}

// P3.4: told otherwise it is moved alike, be it accepted or refused.
func TestToldOtherwiseMoved(t *testing.T) {
	for _, l := range simples()[:21] {
		for _, d := range pts(2, -3, m, m, m-8, 8-m) {
			moved, err := poly.Move(l, d)
			for i := range l {
				x, e := poly.Move(begun(l, i), d)
				y, f := poly.Move(turned(begun(l, i)), d)
				if e != err || f != err {
					t.Error(l, "by", d, err, "but", e, f)
				}
				if err == nil && (!slices.Equal(x, begun(moved, i)) || !slices.Equal(y, turned(begun(moved, i)))) {
					t.Error(l, "by", d, "comes to", x, y)
				}
			}
		}
	}
}

// P1: no call panics, whatever it is given.
func TestWrongArguments(t *testing.T) {
	l := notSimple()
	for _, w := range wrongPoints() {
		l = append(l, []api.Point{w}, []api.Point{w, w, w}, append(pts(0, 0, 4, 0), w))
	}
	l = append(l, wrongPoints(), bowl(5000), make([]api.Point, 100000))
	for _, x := range l {
		poly.Simple(x)
		poly.Twice(x)
		for _, p := range append(wrongPoints(), points(-m, 0, 1, m)...) {
			if len(x) < 100 {
				poly.In(x, p)
			}
			if _, err := poly.Move(x, p); err != api.ErrArg {
				t.Fatal(x, "by", p, err)
			}
		}
		poly.In(x, pt(0, 0))
	}
}
