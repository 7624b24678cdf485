package zone_test

import (
	"encoding/binary"
	"fmt"
	"math/big"
	"math/rand"
	"slices"
	"testing"

	"plover/api"
	"plover/region"
	"plover/zone"
)

// span are the two ends of something along one axis, in numbers of any size.
type span struct{ from, to *big.Int }

// spanOf is from the first to the last one of some numbers.
func spanOf(ns ...int64) span {
	return span{big.NewInt(slices.Min(ns)), big.NewInt(slices.Max(ns))}
}

// moved is a span, moved.
func (s span) moved(by int64) span {
	d := big.NewInt(by)
	return span{new(big.Int).Add(s.from, d), new(big.Int).Add(s.to, d)}
}

// within tells whether a span is within another one.
func (s span) within(other span) bool {
	return other.from.Cmp(s.from) <= 0 && s.to.Cmp(other.to) <= 0
}

// spansOf are those of a region that may be, along x and y.
func spansOf(g api.Region) (x, y span) {
	if len(g.Poly) == 0 {
		return spanOf(g.Rect.X1, g.Rect.X2), spanOf(g.Rect.Y1, g.Rect.Y2)
	}
	var xs, ys []int64
	for _, p := range g.Poly {
		xs, ys = append(xs, p.X), append(ys, p.Y)
	}
	return spanOf(xs...), spanOf(ys...)
}

// slowMay tells whether a rectangle may be: its numbers, put between the bounds, are in order.
func slowMay(r api.Rect) bool {
	return slices.IsSorted([]int64{-1 << 30, r.X1, r.X2, 1 << 30}) && slices.IsSorted([]int64{-1 << 30, r.Y1, r.Y2, 1 << 30})
}

// slowStays tells whether a region, moved, stays within a rectangle; it is false, if one of the two may not be, or if it isn't there to begin with.
func slowStays(g api.Region, r api.Rect, d api.Point) bool {
	if !region.May(g) || !slowMay(r) {
		return false
	}
	x, y := spansOf(g)
	wide, high := spanOf(r.X1, r.X2), spanOf(r.Y1, r.Y2)
	return x.within(wide) && y.within(high) && x.moved(d.X).within(wide) && y.moved(d.Y).within(high)
}

// furthest is the last one of the numbers from 0 on, or back, by which something still goes: by steps that are halved.
func furthest(sign int64, goes func(n int64) bool) int64 {
	n := int64(0)
	for step := int64(1) << 33; step > 0; step /= 2 {
		if goes(sign * (n + step)) {
			n += step
		}
	}
	return sign * n
}

// slowZone goes by the words of the chapter: it tries how far the region may go each way.
func slowZone(g api.Region, r api.Rect) (api.Rect, error) {
	if !slowStays(g, r, pt(0, 0)) {
		return api.Rect{}, api.ErrArg
	}
	x := func(n int64) bool { return slowStays(g, r, pt(n, 0)) }
	y := func(n int64) bool { return slowStays(g, r, pt(0, n)) }
	return rc(furthest(-1, x), furthest(-1, y), furthest(1, x), furthest(1, y)), nil
}

// slowCells are from the begin of the first one to the end of the last one of the cells that have something of a span: it goes from cell to cell.
func slowCells(s int, of span) (from, to int64) {
	from, to = 1<<30, -1<<30
	for at := int64(-1 << 30); at <= 1<<30; at += 1 << s {
		end := min(at+1<<s-1, 1<<30)
		if big.NewInt(end).Cmp(of.from) >= 0 && big.NewInt(at).Cmp(of.to) <= 0 {
			from, to = min(from, at), max(to, end)
		}
	}
	return from, to
}

// slowCover is the box of all cells that have something of a region's box.
func slowCover(s int, g api.Region) (api.Rect, error) {
	if !region.May(g) || s < 24 || s > 31 {
		return api.Rect{}, api.ErrArg
	}
	x, y := spansOf(g)
	x1, x2 := slowCells(s, x)
	y1, y2 := slowCells(s, y)
	return rc(x1, y1, x2, y2), nil
}

// wantAll fails if a call tells otherwise than the slow ways; it tells whether there is a zone.
func wantAll(t testing.TB, g api.Region, r api.Rect, s int, ds []api.Point) string {
	t.Helper()
	want, wantErr := slowZone(g, r)
	got, err := zone.Of(g, r)
	if got != want || err != wantErr {
		t.Fatal(g, "in", r, "may move by", got, err, "not", want, wantErr)
	}
	for _, d := range append(ds, around(want)...) {
		if got, stays := zone.Safe(g, r, d), slowStays(g, r, d); got != stays {
			t.Fatal(g, "in", r, "by", d, "is safe:", got)
		}
	}
	wantCovered(t, s, g)
	if err != nil {
		return "refused"
	}
	return "a zone"
}

// wantCovered fails if the cover's box is another one than by the slow way.
func wantCovered(t testing.TB, s int, g api.Region) {
	t.Helper()
	want, wantErr := slowCover(s, g)
	if got, err := zone.Cover(s, g); got != want || err != wantErr {
		t.Fatal("shift", s, g, "has", got, err, "not", want, wantErr)
	}
}

// around are the moves at, and beside, a zone's edges, and by nothing.
func around(z api.Rect) []api.Point {
	var l []api.Point
	for _, x := range []int64{z.X1 - 1, z.X1, 0, z.X2, z.X2 + 1} {
		for _, y := range []int64{z.Y1 - 1, z.Y1, 0, z.Y2, z.Y2 + 1} {
			l = append(l, pt(x, y))
		}
	}
	return l
}

// everyRect are all rectangles of a few coordinates, be their sides in order or not.
func everyRect(ns ...int64) []api.Rect {
	var l []api.Rect
	for _, p := range points(ns...) {
		for _, q := range points(ns...) {
			l = append(l, rc(p.X, p.Y, q.X, q.Y))
		}
	}
	return l
}

// P17.1: all rectangles of a few coordinates in all others, small ones and those about the bounds.
func TestEveryRect(t *testing.T) {
	for _, ns := range [][]int64{{0, 1, 3}, {-m - 1, -m, m}, {-m, 0, m, m + 1}, {-1 << 63, 0, 1<<63 - 1}} {
		counts := map[string]int{}
		l := everyRect(ns...)
		for _, r := range l {
			for _, cover := range l {
				counts[wantAll(t, api.Region{Rect: r}, cover, 24, nil)]++
			}
		}
		if counts["refused"] < 100 || counts["a zone"] == 0 {
			t.Error(ns, counts)
		}
	}
}

// P17.1, Safe: point by point: just where each point of the box, moved, is one of the rectangle.
func TestEveryMove(t *testing.T) {
	has := func(r api.Rect, x, y int64) bool { return r.X1 <= x && x <= r.X2 && r.Y1 <= y && y <= r.Y2 }
	stays := func(b, r api.Rect, d api.Point) bool {
		for x := b.X1; x <= b.X2; x++ {
			for y := b.Y1; y <= b.Y2; y++ {
				if !has(r, x, y) || !has(r, x+d.X, y+d.Y) {
					return false
				}
			}
		}
		return true
	}
	safe := 0
	for _, b := range []api.Rect{rc(0, 0, 0, 0), rc(1, 2, 1, 2), rc(0, 1, 2, 1), rc(1, 0, 1, 2), rc(0, 0, 1, 2), rc(1, 1, 3, 2)} {
		for _, r := range everyRect(-1, 0, 1, 2, 3) {
			if r.X1 > r.X2 || r.Y1 > r.Y2 {
				continue
			}
			for _, d := range points(-5, -4, -3, -2, -1, 0, 1, 2, 3, 4, 5) {
				want := stays(b, r, d)
				for _, g := range both(b) {
					if got := zone.Safe(g, r, d); got != want {
						t.Fatal(g, "in", r, "by", d, "is safe:", got)
					}
				}
				if want {
					safe++
				}
			}
		}
	}
	if safe < 500 {
		t.Error("only", safe, "safe moves")
	}
}

// P17.1, Cover: rectangles, and polygons with that box, at both ends of cells, for each shift.
func TestEveryCover(t *testing.T) {
	for _, s := range shifts() {
		side := int64(1) << s
		ns := []int64{-m, min(side-m-1, m), min(side-m, m), -1, 0, m - 1, m}
		for _, r := range everyRect(ns...) {
			if r.X1 > r.X2 || r.Y1 > r.Y2 {
				wantNoCover(t, s, api.Region{Rect: r})
				continue
			}
			for _, g := range both(r) {
				wantCovered(t, s, g)
			}
		}
	}
}

// drawn draws regions, rectangles, shifts and moves.
type drawn struct{ *rand.Rand }

// number is about a middle, now and then beyond what may be.
func (r drawn) number(middle, wide int64) int64 {
	if r.Intn(300) == 0 {
		return outermost()[r.Intn(len(outermost()))]
	}
	return middle + r.Int63n(2*wide+1) - wide
}

// point is one about a place.
func (r drawn) point(at api.Point, wide int64) api.Point {
	return pt(r.number(at.X, wide), r.number(at.Y, wide))
}

// place is where numbers are about, and how wide: in the midst, at a cell's edge, at the bounds.
func (r drawn) place() (at api.Point, wide int64) {
	wide = []int64{1, 2, 4, 9, 50, 1 << 24, m / 2}[r.Intn(7)]
	ns := []int64{0, 0, 1 << 24, -3 << 24, m - wide, wide - m, m}
	return pt(ns[r.Intn(len(ns))], ns[r.Intn(len(ns))]), wide
}

// region is one about a place, of either sort, now and then of both.
func (r drawn) region(at api.Point, wide int64) api.Region {
	a, b := r.point(at, wide), r.point(at, wide)
	g := box(min(a.X, b.X), min(a.Y, b.Y), max(a.X, b.X), max(a.Y, b.Y))
	if r.Intn(2) == 0 && r.Intn(20) > 0 {
		return g
	}
	if r.Intn(30) > 0 {
		g.Rect = api.Rect{}
	}
	for range 3 + r.Intn(3) {
		g.Poly = append(g.Poly, r.point(at, wide))
	}
	return g
}

// about is a rectangle that has a region's box, or nearly so.
func (r drawn) about(g api.Region, wide int64) api.Rect {
	x, y := spansOf(g)
	step := func() int64 {
		return []int64{0, 0, 1, -1, r.Int63n(wide + 1), r.Int63n(wide + 1), r.Int63n(m), m}[r.Intn(8)]
	}
	if !slowMay(rc(x.from.Int64(), y.from.Int64(), x.to.Int64(), y.to.Int64())) {
		return rc(-m, -m, m, m)
	}
	cover := rc(x.from.Int64()-step(), y.from.Int64()-step(), x.to.Int64()+step(), y.to.Int64()+step())
	if r.Intn(6) > 0 {
		cover = rc(max(cover.X1, -m), max(cover.Y1, -m), min(cover.X2, m), min(cover.Y2, m))
	}
	return cover
}

// P17.1: drawn regions, rectangles, shifts and moves, in the midst and about the bounds.
func TestDrawn(t *testing.T) {
	r := drawn{rand.New(rand.NewSource(17))}
	counts := map[string]int{}
	for range 30000 {
		at, wide := r.place()
		g := r.region(at, wide)
		cover := r.about(g, wide)
		ds := []api.Point{r.point(pt(0, 0), wide), r.point(pt(0, 0), m), r.point(pt(-at.X, -at.Y), wide), r.point(pt(m-at.X, m-at.Y), 2)}
		kind := wantAll(t, g, cover, 23+r.Intn(10), ds)
		counts[fmt.Sprint(kind, ", rect ", len(g.Poly) == 0, ", may ", region.May(g))]++
	}
	for _, k := range []string{
		"a zone, rect true, may true", "a zone, rect false, may true", "refused, rect true, may true", "refused, rect false, may true",
		"refused, rect true, may false", "refused, rect false, may false",
	} {
		if counts[k] < 100 {
			t.Error("only", counts[k], "of", k, counts)
		}
	}
}

// read makes a region, a rectangle and a move of bytes: the first one tells where numbers are about, and how much there is.
func read(b []byte) (g api.Region, r api.Rect, d api.Point) {
	if len(b) == 0 {
		return
	}
	how := b[0]
	b = b[1:]
	next := func() int64 {
		if how&64 > 0 && len(b) >= 8 {
			n := int64(binary.BigEndian.Uint64(b))
			b = b[8:]
			return n
		}
		if len(b) == 0 {
			return 0
		}
		n := int64(int8(b[0]))
		b = b[1:]
		return n + []int64{0, m, -m, 0}[how&3]
	}
	r = rc(next(), next(), next(), next())
	d = pt(next(), next())
	if how&4 > 0 {
		d.X, d.Y = d.X-m, d.Y+m
	}
	if how&8 > 0 {
		g.Rect = rc(next(), next(), next(), next())
	}
	if how&16 > 0 {
		for range 70 {
			if len(b) > 0 {
				g.Poly = append(g.Poly, pt(next(), next()))
			}
		}
	}
	return
}

// P17.1: all calls, by drawn bytes.
func FuzzAll(f *testing.F) {
	f.Add([]byte{8, 0, 0, 9, 9, 1, 1, 1, 1, 2, 2}, 24)
	f.Add([]byte{16, 0, 0, 10, 10, 6, 254, 1, 2, 4, 2, 1, 5}, 30)
	f.Add([]byte{9, 246, 246, 0, 0, 1, 1, 250, 250, 0, 0}, 31)
	f.Add([]byte{24, 0, 0, 9, 9, 1, 1, 0, 0, 0, 1, 0, 0, 4, 0, 0, 4}, 23)
	f.Fuzz(func(t *testing.T, b []byte, s int) {
		g, r, d := read(b)
		wantAll(t, g, r, s, []api.Point{d, pt(d.Y, -d.X)})
		wantAll(t, g, rc(-m, -m, m, m), 24+s&7, []api.Point{d})
	})
}
