package region_test

import (
	"encoding/binary"
	"fmt"
	"math/big"
	"math/rand"
	"slices"
	"testing"

	"plover/api"
	"plover/region"
)

// way is how to go from a to b, in numbers of any size.
func way(a, b api.Point) [2]*big.Int {
	return [2]*big.Int{new(big.Int).Sub(big.NewInt(b.X), big.NewInt(a.X)), new(big.Int).Sub(big.NewInt(b.Y), big.NewInt(a.Y))}
}

// area is that between two ways, with a sign.
func area(v, w [2]*big.Int) *big.Int {
	l, r := new(big.Int).Mul(v[0], w[1]), new(big.Int).Mul(v[1], w[0])
	return l.Sub(l, r)
}

// partly tells whether n / d is from 0 to 1.
func partly(n, d *big.Int) bool {
	q := new(big.Rat).SetFrac(n, d)
	return q.Sign() >= 0 && q.Cmp(big.NewRat(1, 1)) <= 0
}

// sooner is the one of two points that comes first, by x, and by y where that is the same.
func sooner(a, b api.Point) api.Point {
	if a.X < b.X || a.X == b.X && a.Y < b.Y {
		return a
	}
	return b
}

// later is the other one.
func later(a, b api.Point) api.Point {
	if sooner(a, b) == a {
		return b
	}
	return a
}

// common tells how many points two segments have in common, each of two different ends: 0, 1, or 2 for many.
func common(a, b, c, d api.Point) int {
	ab, cd, ac := way(a, b), way(c, d), way(a, c)
	det := area(ab, cd)
	if det.Sign() != 0 {
		if partly(area(ac, cd), det) && partly(area(ac, ab), det) {
			return 1
		}
		return 0
	}
	if area(ab, ac).Sign() != 0 {
		return 0
	}
	// On one line the later one of their begins is held against the sooner one of their ends.
	lo, hi := later(sooner(a, b), sooner(c, d)), sooner(later(a, b), later(c, d))
	switch {
	case lo == hi:
		return 1
	case sooner(lo, hi) == lo:
		return 2
	}
	return 0
}

// slowSimple goes by the words of chapter 3.
func slowSimple(l []api.Point) bool {
	if len(l) < 3 || len(l) > 64 {
		return false
	}
	for i, p := range l {
		if !slowPoint(p) || slices.Contains(l[:i], p) {
			return false
		}
	}
	n := len(l)
	for i := range n {
		for j := range i {
			want := 0
			if j == i-1 || j == 0 && i == n-1 {
				want = 1
			}
			if common(l[i], l[(i+1)%n], l[j], l[(j+1)%n]) != want {
				return false
			}
		}
	}
	return true
}

// slowPoint tells whether a point may be, with numbers of any size.
func slowPoint(p api.Point) bool {
	bound := new(big.Int).Lsh(big.NewInt(1), 30)
	return big.NewInt(p.X).CmpAbs(bound) <= 0 && big.NewInt(p.Y).CmpAbs(bound) <= 0
}

// corners are a rectangle's four.
func corners(r api.Rect) []api.Point { return pts(r.X1, r.Y1, r.X1, r.Y2, r.X2, r.Y1, r.X2, r.Y2) }

// slowMay goes by the words of the chapter.
func slowMay(g api.Region) bool {
	alone := len(g.Poly) == 0 && g.Rect.X1 <= g.Rect.X2 && g.Rect.Y1 <= g.Rect.Y2
	for _, p := range corners(g.Rect) {
		alone = alone && slowPoint(p)
	}
	zero := !slices.ContainsFunc(corners(g.Rect), func(p api.Point) bool { return p != pt(0, 0) })
	return alone || zero && slowSimple(g.Poly)
}

// slowBox is from the first to the last one of all coordinates, put in order, of one that may be.
func slowBox(g api.Region) api.Rect {
	l := g.Poly
	if len(l) == 0 {
		l = corners(g.Rect)
	}
	var xs, ys []int64
	for _, p := range l {
		xs, ys = append(xs, p.X), append(ys, p.Y)
	}
	slices.Sort(xs)
	slices.Sort(ys)
	return rc(xs[0], ys[0], xs[len(xs)-1], ys[len(ys)-1])
}

// slowOn tells whether p is on the segment of a and b: beside neither its line nor its ends.
func slowOn(a, b, p api.Point) bool {
	if area(way(a, b), way(a, p)).Sign() != 0 {
		return false
	}
	return sooner(sooner(a, b), p) == sooner(a, b) && later(later(a, b), p) == later(a, b)
}

// slowIn is for a region that may be: a rectangle is taken as the polygon of its corners, if it has something between them.
func slowIn(g api.Region, p api.Point) bool {
	r, l := g.Rect, g.Poly
	switch {
	case !slowPoint(p):
		return false
	case len(l) == 0 && (r.X1 == r.X2 || r.Y1 == r.Y2):
		return slowOn(pt(r.X1, r.Y1), pt(r.X2, r.Y2), p)
	case len(l) == 0:
		l = pts(r.X1, r.Y1, r.X2, r.Y1, r.X2, r.Y2, r.X1, r.Y2)
	}
	return slowInPoly(l, p)
}

// slowInPoly goes by the words of chapter 3: an edge has the point, or the ray crosses edges an odd number of times.
func slowInPoly(l []api.Point, p api.Point) bool {
	odd := false
	for i, a := range l {
		b := l[(i+1)%len(l)]
		if slowOn(a, b, p) {
			return true
		}
		if (a.Y > p.Y) == (b.Y > p.Y) {
			continue
		}
		ab, ap := way(a, b), way(a, p)
		x := new(big.Rat).SetFrac(new(big.Int).Mul(ap[1], ab[0]), ab[1])
		if x.Cmp(new(big.Rat).SetInt(ap[0])) > 0 {
			odd = !odd
		}
	}
	return odd
}

// slowMove is for a region that may be; it is false where a point that comes of it may not be, or the move.
func slowMove(g api.Region, d api.Point) (api.Region, bool) {
	if !slowPoint(d) {
		return api.Region{}, false
	}
	moved := movedBy(g, d)
	l := moved.Poly
	if len(l) == 0 {
		l = corners(moved.Rect)
	}
	return moved, !slices.ContainsFunc(l, func(p api.Point) bool { return !slowPoint(p) })
}

// text tells all of a region.
func text(g api.Region) string { return fmt.Sprint(g.Rect, len(g.Poly), g.Poly) }

// wantAll fails if a call tells otherwise than the slow ways, and tells whether the region may be.
func wantAll(t testing.TB, g api.Region, ps, ds []api.Point) bool {
	t.Helper()
	may := slowMay(g)
	if got := region.May(g); got != may {
		t.Fatal(g, "may be:", got)
	}
	wantBox(t, g, may)
	for _, p := range ps {
		if got, want := region.In(g, p), may && slowIn(g, p); got != want {
			t.Fatal(p, "is in", g, got)
		}
	}
	for _, d := range ds {
		wantMove(t, g, d, may)
	}
	return may
}

// wantBox fails if its rectangle isn't that of the slow way.
func wantBox(t testing.TB, g api.Region, may bool) {
	t.Helper()
	got, err := region.Box(g)
	if !may {
		if got != (api.Rect{}) || err != api.ErrArg {
			t.Fatal(g, "has", got, err)
		}
		return
	}
	if got != slowBox(g) || err != nil {
		t.Fatal(g, "has", got, err)
	}
}

// wantMove fails if it isn't moved as by the slow way.
func wantMove(t testing.TB, g api.Region, d api.Point, may bool) {
	t.Helper()
	var want api.Region
	var code error = api.ErrArg
	if may {
		moved, ok := slowMove(g, d)
		code = api.ErrRange
		if ok {
			want, code = moved, nil
		}
	}
	got, err := region.Move(g, d)
	if err != code || text(got) != text(want) {
		t.Fatal(g, "by", d, "comes to", got, err)
	}
}

// wantSame fails if Same tells otherwise than their texts.
func wantSame(t testing.TB, a, b api.Region) {
	t.Helper()
	want := text(a) == text(b)
	if got, turned := region.Same(a, b), region.Same(b, a); got != want || turned != want {
		t.Fatal(a, b, "are the same:", got, turned)
	}
}

// each calls f with each list of n points of a list, always in the same memory.
func each(n int, of []api.Point, f func(l []api.Point)) {
	l := make([]api.Point, n)
	var put func(i int)
	put = func(i int) {
		if i == n {
			f(l)
			return
		}
		for _, p := range of {
			l[i] = p
			put(i + 1)
		}
	}
	put(0)
}

// P16.1, P16.2: all rectangles of a few coordinates, small ones, those about the bounds, and the outermost ones.
func TestEveryRect(t *testing.T) {
	for _, ns := range [][]int64{{-1, 0, 1, 2}, {-m - 1, -m, 0, m, m + 1}, append(outermost(), 0)} {
		ps, ds := points(ns...), append(points(-1, 0, 1), points(-m, m)...)
		many := 0
		each(2, ps, func(l []api.Point) {
			if wantAll(t, box(l[0].X, l[0].Y, l[1].X, l[1].Y), ps, ds) {
				many++
			}
		})
		if many == 0 || many == len(ps)*len(ps) {
			t.Error(ns, many, "may be")
		}
	}
}

// P16.1, P16.2: all lists of at most 4 points of a small grid, by themselves; of at most 3 also beside rectangles.
func TestEverySmallPoly(t *testing.T) {
	ps, ds := points(-1, 0, 1, 2, 3), pts(0, 0, 1, -2, m, 0)
	many := 0
	for n := range 4 {
		each(n, points(0, 1, 2), func(l []api.Point) {
			if wantAll(t, of(l), ps, ds) {
				many++
			}
			for _, r := range []api.Rect{rc(0, 0, 2, 2), rc(0, 0, 0, 1), rc(0, 0, 1, 0), rc(0, -1, 0, 0), rc(-1, 0, 0, 0), rc(1, 0, 0, 0)} {
				wantAll(t, api.Region{Rect: r, Poly: l}, pts(0, 0, 1, 1), ds[:2])
			}
		})
	}
	each(4, points(0, 1, 2)[:8], func(l []api.Point) {
		if wantAll(t, of(l), pts(0, 0, 1, 1, 0, 1, 2, 1), ds[1:2]) {
			many++
		}
	})
	if many < 500 {
		t.Error("only", many, "may be")
	}
}

// P16.1, Same: all pairs of small ones, of no point up to 2 of them, and rectangles.
func TestEverySame(t *testing.T) {
	var l []api.Region
	for n := range 3 {
		each(n, points(0, 1), func(x []api.Point) {
			for _, r := range []api.Rect{{}, rc(1, 0, 0, 0), rc(0, 1, 0, 0), rc(0, 0, 1, 0), rc(0, 0, 0, 1), rc(1, 1, 1, 1)} {
				l = append(l, api.Region{Rect: r, Poly: slices.Clone(x)})
			}
		})
	}
	for _, a := range l {
		for _, b := range l {
			wantSame(t, a, b)
		}
	}
}

// drawn draws regions, points and moves.
type drawn struct{ *rand.Rand }

// number is about a middle, now and then beyond what may be.
func (r drawn) number(middle, wide int64) int64 {
	if r.Intn(400) == 0 {
		return outermost()[r.Intn(8)]
	}
	return middle + r.Int63n(2*wide+1) - wide
}

// place is where numbers are about, and how wide: small ones in the midst, ones at the bounds, all that may be.
func (r drawn) place() (at api.Point, wide int64) {
	wide = []int64{1, 2, 4, 9, 50, m / 2}[r.Intn(6)]
	ns := []int64{0, 0, m - wide, wide - m, m, -m, m - wide - 1}
	return pt(ns[r.Intn(len(ns))], ns[r.Intn(len(ns))]), wide
}

// point is one about a place.
func (r drawn) point(at api.Point, wide int64) api.Point {
	return pt(r.number(at.X, wide), r.number(at.Y, wide))
}

// region is one about a place, of either sort, or now and then of both.
func (r drawn) region(at api.Point, wide int64) api.Region {
	var g api.Region
	if r.Intn(2) == 0 {
		a, b := r.point(at, wide), r.point(at, wide)
		g.Rect = rc(min(a.X, b.X), min(a.Y, b.Y), max(a.X, b.X), max(a.Y, b.Y))
		if r.Intn(8) == 0 {
			g.Rect = rc(a.X, a.Y, b.X, b.Y)
		}
		if r.Intn(20) > 0 {
			return g
		}
	}
	for range 1 + r.Intn(6) {
		g.Poly = append(g.Poly, r.point(at, wide))
	}
	return g
}

// move is a small one, or one to about a bound from a place.
func (r drawn) move(at api.Point, wide int64) api.Point {
	if r.Intn(2) == 0 {
		return r.point(pt(0, 0), wide)
	}
	to := []int64{m, -m, 0}
	return r.point(pt(to[r.Intn(3)]-at.X, to[r.Intn(3)]-at.Y), wide)
}

// near are points at, and beside, a region's points, and between them.
func near(g api.Region) []api.Point {
	l := append(corners(g.Rect), g.Poly...)
	var all []api.Point
	for i, a := range l {
		b := l[(i+1)%len(l)]
		for _, d := range points(-1, 0, 1) {
			all = append(all, pt(a.X+d.X, a.Y+d.Y), pt(a.X/2+b.X/2+d.X, a.Y/2+b.Y/2+d.Y))
		}
	}
	return all
}

// P16.1, P16.2: drawn regions, points and moves, in the midst and about the bounds.
func TestDrawn(t *testing.T) {
	r := drawn{rand.New(rand.NewSource(16))}
	counts := map[string]int{}
	for range 12000 {
		at, wide := r.place()
		g, other := r.region(at, wide), r.region(at, wide)
		ds := []api.Point{r.move(at, wide), r.move(at, wide), r.move(at, wide)}
		kind := fmt.Sprint("rect ", len(g.Poly) == 0, ", may ", wantAll(t, g, append(near(g), r.point(at, wide)), ds))
		for _, d := range ds {
			if _, err := region.Move(g, d); err == nil {
				counts["moved, "+kind]++
			} else {
				counts[err.Error()+", "+kind]++
			}
		}
		wantSame(t, g, other)
		wantSame(t, g, g)
		counts[kind]++
	}
	for _, sort := range []string{"rect true", "rect false"} {
		for _, k := range []string{sort + ", may true", sort + ", may false", "moved, " + sort + ", may true", "error 11, " + sort + ", may true", "error 1, " + sort + ", may false"} {
			if counts[k] < 500 {
				t.Error("only", counts[k], "of", k)
			}
		}
	}
}

// read makes a region, a point and a move of bytes: the first one tells where numbers are about, and how much is the rectangle's.
func read(b []byte) (g api.Region, p, d api.Point) {
	if len(b) == 0 {
		return
	}
	how := b[0]
	b = b[1:]
	next := func() int64 {
		if how&64 > 0 && len(b) >= 8 {
			n := int64(binary.BigEndian.Uint64(b))
			b = b[8:]
			return n
		}
		if len(b) == 0 {
			return 0
		}
		n := int64(int8(b[0]))
		b = b[1:]
		return n + []int64{0, m, -m, 0}[how&3]
	}
	p, d = pt(next(), next()), pt(next(), next())
	if how&4 > 0 {
		d.X, d.Y = d.X-m, d.Y+m
	}
	if how&8 > 0 {
		g.Rect = rc(next(), next(), next(), next())
	}
	if how&16 > 0 {
		for range 70 {
			if len(b) > 0 {
				g.Poly = append(g.Poly, pt(next(), next()))
			}
		}
	}
	return
}

// P16.1, P16.2: all calls, by drawn bytes.
func FuzzAll(f *testing.F) {
	f.Add([]byte{8, 1, 1, 2, 3, 0, 0, 4, 4}, []byte{16, 1, 1, 2, 3, 0, 0, 4, 0, 0, 4})
	f.Add([]byte{24, 1, 1, 2, 3, 0, 0, 0, 1, 0, 0, 4, 0, 0, 4}, []byte{17, 255, 0, 0, 1, 0, 0, 252, 0, 0, 252})
	f.Add([]byte{9, 0, 0, 1, 0, 250, 250, 0, 0}, []byte{16, 1, 1, 2, 3, 0, 0, 4, 0, 4, 4, 2, 1, 0, 4})
	f.Fuzz(func(t *testing.T, one, other []byte) {
		g, p, d := read(one)
		h, q, e := read(other)
		wantAll(t, g, pts(p.X, p.Y, q.X, q.Y), pts(d.X, d.Y, e.X, e.Y))
		wantAll(t, h, near(h)[:9], pts(d.X, d.Y, e.X, e.Y))
		wantSame(t, g, h)
	})
}
