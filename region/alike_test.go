package region_test

import (
	"math"
	"math/rand"
	"slices"
	"testing"

	"plover/api"
	"plover/rect"
	"plover/region"
)

// star is one of n points at most round a place, up to r away: by their directions in order.
func star(rnd *rand.Rand, at api.Point, n int, r int64) []api.Point {
	by := map[float64]api.Point{}
	for range n {
		if d := pt(rnd.Int63n(2*r+1)-r, rnd.Int63n(2*r+1)-r); d != pt(0, 0) {
			by[math.Atan2(float64(d.Y), float64(d.X))] = pt(at.X+d.X, at.Y+d.Y)
		}
	}
	var angles []float64
	for a := range by {
		angles = append(angles, a)
	}
	slices.Sort(angles)
	var l []api.Point
	for _, a := range angles {
		l = append(l, by[a])
	}
	return l
}

// some are regions that may be: those that are written out, and drawn ones of both sorts, small and great, in the midst and at the bounds.
func some(t *testing.T) []api.Region {
	t.Helper()
	var l []api.Region
	for _, c := range rights() {
		l = append(l, c.g)
	}
	rnd := rand.New(rand.NewSource(164))
	rects, polys := 0, 0
	for range 200 {
		r := []int64{1, 2, 4, 9, 40, m / 3}[rnd.Intn(6)]
		ns := []int64{0, 5, m - r, r - m}
		at := pt(ns[rnd.Intn(4)], ns[rnd.Intn(4)])
		x, y := rnd.Int63n(2*r+1)-r, rnd.Int63n(2*r+1)-r
		l = append(l, box(at.X+min(x, y), at.Y-r, at.X+max(x, y), at.Y+rnd.Int63n(2*r+1)-r))
		rects++
		if s := star(rnd, at, 3+rnd.Intn(12), r); slowSimple(s) {
			l = append(l, of(s))
			polys++
		}
	}
	if rects < 50 || polys < 50 {
		t.Fatal("only", rects, "rectangles,", polys, "polygons")
	}
	return l
}

// boxOf is the box of a region that may be.
func boxOf(t *testing.T, g api.Region) api.Rect {
	t.Helper()
	b, err := region.Box(g)
	if err != nil {
		t.Fatal(g, err)
	}
	return b
}

// grid are points round a region and of it: at so many steps of its box, beside it, and beside each of its points.
func grid(b api.Rect, g api.Region, steps int64) []api.Point {
	along := func(from, to int64) []int64 {
		l := []int64{from - 2, from - 1, to + 1, to + 2, -m, m}
		step := max(1, (to-from)/steps)
		for n := from; n <= to; n += step {
			l = append(l, n)
		}
		return append(l, to)
	}
	var l []api.Point
	for _, x := range along(b.X1, b.X2) {
		for _, y := range along(b.Y1, b.Y2) {
			l = append(l, pt(x, y))
		}
	}
	for i, p := range append(corners(b), g.Poly...) {
		// Of very many points the first and the last ones will do.
		if i > 12 && i < len(g.Poly) {
			continue
		}
		for _, d := range points(-1, 0, 1) {
			l = append(l, pt(p.X+d.X, p.Y+d.Y))
		}
	}
	return l
}

// moves are some that a region's box could take: small ones, and those that bring it to each of the bounds.
func moves(b api.Rect) []api.Point {
	l := pts(0, 0, 1, 0, 0, -1, -3, 5, 1000, -1000, m/2, -m/3)
	for _, x := range []int64{-m - b.X1, m - b.X2, 0} {
		for _, y := range []int64{-m - b.Y1, m - b.Y2, 0} {
			l = append(l, pt(x, y))
		}
	}
	return l
}

// P16.4: what is in it is in its box.
func TestInIsInTheBox(t *testing.T) {
	for _, g := range some(t) {
		b := boxOf(t, g)
		in, out := 0, 0
		for _, p := range grid(b, g, 12) {
			if !region.In(g, p) {
				out++
				continue
			}
			in++
			if !rect.In(b, p) {
				t.Fatal(p, "is in", g, "beside", b)
			}
		}
		if in == 0 || out == 0 {
			t.Error(g, "has", in, "of", in+out)
		}
	}
}

// P16.1: the box is the least one: each of its sides has a point that is in the region, and it may be.
func TestBoxIsLeast(t *testing.T) {
	for _, g := range some(t) {
		b := boxOf(t, g)
		if !rect.May(b) {
			t.Error(g, "has", b)
		}
		for _, side := range []api.Rect{rc(b.X1, b.Y1, b.X1, b.Y2), rc(b.X2, b.Y1, b.X2, b.Y2), rc(b.X1, b.Y1, b.X2, b.Y1), rc(b.X1, b.Y2, b.X2, b.Y2)} {
			held := false
			for _, p := range append(corners(side), g.Poly...) {
				held = held || rect.In(side, p) && region.In(g, p)
			}
			if !held {
				t.Error(g, "has nothing at", side)
			}
		}
	}
}

// P16.4: moved alike each point stays in, or out; and the box is moved as its region.
func TestMovedAlike(t *testing.T) {
	done := 0
	for _, g := range some(t) {
		b := boxOf(t, g)
		l := grid(b, g, 3)
		var was []bool
		for _, p := range l {
			was = append(was, region.In(g, p))
		}
		for _, d := range moves(b) {
			moved, err := region.Move(g, d)
			boxMoved, errBox := region.Move(api.Region{Rect: b}, d)
			if err != errBox {
				t.Fatal(g, "by", d, err, "its box", errBox)
			}
			if err != nil {
				continue
			}
			done++
			if got := boxOf(t, moved); got != boxMoved.Rect || got != movedBy(api.Region{Rect: b}, d).Rect {
				t.Fatal(g, "by", d, "has", got)
			}
			for i, p := range l {
				q := pt(p.X+d.X, p.Y+d.Y)
				if slowPoint(p) && slowPoint(q) && region.In(moved, q) != was[i] {
					t.Fatal(p, "in", g, was[i], "but not alike by", d)
				}
			}
		}
	}
	if done < 2000 {
		t.Error("only", done, "moves")
	}
}

// P16.2: there and back again it is the same; by two moves it is as by their sum.
func TestMovedBack(t *testing.T) {
	for _, g := range some(t) {
		for _, d := range moves(boxOf(t, g)) {
			moved, err := region.Move(g, d)
			if err != nil {
				continue
			}
			if !region.May(moved) || region.Same(g, moved) != (d == pt(0, 0)) {
				t.Fatal(g, "by", d, "comes to", moved)
			}
			back, err := region.Move(moved, pt(-d.X, -d.Y))
			if err != nil || !region.Same(g, back) {
				t.Fatal(g, "comes back as", back, err)
			}
			half, errHalf := region.Move(g, pt(d.X/2, d.Y/2))
			rest, errRest := region.Move(half, pt(d.X-d.X/2, d.Y-d.Y/2))
			if errHalf != nil || errRest != nil || !region.Same(rest, moved) {
				t.Fatal(g, "by", d, "comes to", moved, "by halves to", rest, errHalf, errRest)
			}
		}
	}
}
