package zone_test

import (
	"math"
	"math/rand"
	"slices"
	"testing"

	"plover/api"
	"plover/cover"
	"plover/rect"
	"plover/region"
	"plover/zone"
)

// star is a polygon of n points at most round a place, up to r away: by their directions in order.
func star(rnd *rand.Rand, at api.Point, n int, r int64) []api.Point {
	by := map[float64]api.Point{}
	for range n {
		if d := pt(rnd.Int63n(2*r+1)-r, rnd.Int63n(2*r+1)-r); d != pt(0, 0) {
			by[math.Atan2(float64(d.Y), float64(d.X))] = pt(at.X+d.X, at.Y+d.Y)
		}
	}
	var angles []float64
	for a := range by {
		angles = append(angles, a)
	}
	slices.Sort(angles)
	var l []api.Point
	for _, a := range angles {
		l = append(l, by[a])
	}
	return l
}

// some are regions that may be, of both sorts: within cells and across their edges, at the bounds, of all there is.
func some(t *testing.T) []api.Region {
	t.Helper()
	var l []api.Region
	for _, r := range append(boxes(), all(), rc(m, m, m, m), rc(-m, -m, -m, -m), rc(m-1, -m, m, -m), rc(-m, m-3, -m+2, m)) {
		l = append(l, both(r)...)
	}
	rnd := rand.New(rand.NewSource(172))
	rects, polys := 0, 0
	for range 150 {
		r := []int64{1, 3, 40, 1 << 22, 1 << 25, m / 3}[rnd.Intn(6)]
		ns := []int64{0, 1 << 24, -5 << 24, 1 << 29, m - r, r - m}
		at := pt(ns[rnd.Intn(6)], ns[rnd.Intn(6)])
		x, y := rnd.Int63n(2*r+1)-r, rnd.Int63n(2*r+1)-r
		l = append(l, box(at.X+min(x, y), at.Y-r, at.X+max(x, y), at.Y+rnd.Int63n(2*r+1)-r))
		rects++
		if g := (api.Region{Poly: star(rnd, at, 3+rnd.Intn(9), r)}); len(g.Poly) > 2 && region.May(g) {
			l = append(l, g)
			polys++
		}
	}
	if rects < 50 || polys < 50 {
		t.Fatal("only", rects, "rectangles,", polys, "polygons")
	}
	return l
}

// coverOf is a cover's box, of a region that may be.
func coverOf(t *testing.T, s int, g api.Region) api.Rect {
	t.Helper()
	r, err := zone.Cover(s, g)
	if err != nil {
		t.Fatal("shift", s, g, err)
	}
	return r
}

// boxOf is the box of a region that may be.
func boxOf(t *testing.T, g api.Region) api.Rect {
	t.Helper()
	r, err := region.Box(g)
	if err != nil {
		t.Fatal(g, err)
	}
	return r
}

// moves are some at, and beside, a zone's edges, within it, and drawn ones, small and great.
func moves(rnd *rand.Rand, z api.Rect) []api.Point {
	l := around(z)
	for range 6 {
		l = append(l, pt(z.X1+rnd.Int63n(z.X2-z.X1+1), z.Y1+rnd.Int63n(z.Y2-z.Y1+1)))
		wide := []int64{2, 1 << 20, 1 << 24, m}[rnd.Intn(4)]
		l = append(l, pt(rnd.Int63n(2*wide+1)-wide, rnd.Int63n(2*wide+1)-wide))
	}
	return l
}

// wantHeld fails if the moved region's box, or its cover's, isn't within the cover's box.
func wantHeld(t *testing.T, s int, moved api.Region, r api.Rect) {
	t.Helper()
	if !rect.Holds(r, boxOf(t, moved)) {
		t.Fatal("shift", s, moved, "isn't within", r)
	}
	anew := coverOf(t, s, moved)
	if !rect.Holds(r, anew) || !rect.Holds(anew, boxOf(t, moved)) {
		t.Fatal("shift", s, moved, "has a cover in", anew, "beside", r)
	}
	before, err := cover.Cells(s, r)
	if err != nil {
		t.Fatal("shift", s, r, err)
	}
	after, err := cover.Cells(s, boxOf(t, moved))
	if err != nil {
		t.Fatal("shift", s, moved, err)
	}
	for _, c := range after {
		if _, is := slices.BinarySearch(before, c); !is {
			t.Fatal("shift", s, moved, "is in cell", c, "beside", r)
		}
	}
}

// P17.2: moved by what is safe it stays within the cover's box, and its cover too; by what isn't safe it doesn't stay.
func TestSafeStays(t *testing.T) {
	rnd := rand.New(rand.NewSource(17))
	safe, unsafe, far := 0, 0, 0
	for _, g := range some(t) {
		for _, s := range shifts() {
			r := coverOf(t, s, g)
			z, err := zone.Of(g, r)
			if err != nil {
				t.Fatal("shift", s, g, r, err)
			}
			for _, d := range moves(rnd, z) {
				moved, err := region.Move(g, d)
				is := zone.Safe(g, r, d)
				switch {
				case err != nil && is:
					// It would stay, but there is no move as far as that.
					if far++; max(d.X, -d.X) <= m && max(d.Y, -d.Y) <= m {
						t.Fatal("shift", s, g, "by", d, "is safe, but", err)
					}
				case err != nil:
				case is:
					safe++
					wantHeld(t, s, moved, r)
				default:
					if unsafe++; rect.Holds(r, boxOf(t, moved)) {
						t.Fatal("shift", s, g, "by", d, "stays within", r)
					}
				}
			}
		}
	}
	if safe < 5000 || unsafe < 5000 || far < 100 {
		t.Error("only", safe, "safe moves,", unsafe, "that aren't,", far, "too far")
	}
}

// P17.2: the move of nothing is safe for each region that may be, in its cover's box, in its own, and in the widest one.
func TestNothingIsSafe(t *testing.T) {
	for _, g := range some(t) {
		for _, s := range shifts() {
			if !zone.Safe(g, coverOf(t, s, g), pt(0, 0)) {
				t.Error("shift", s, g, "can't stay")
			}
		}
		if !zone.Safe(g, boxOf(t, g), pt(0, 0)) || !zone.Safe(g, all(), pt(0, 0)) {
			t.Error(g, "can't stay")
		}
	}
}

// P17.2: one behind another, moves that are safe each keep it within the cover's box of the first one; and the zone goes the other way by as much.
func TestSafeAgainAndAgain(t *testing.T) {
	rnd := rand.New(rand.NewSource(7))
	for _, g := range some(t) {
		s := 24 + rnd.Intn(8)
		r := coverOf(t, s, g)
		z, err := zone.Of(g, r)
		if err != nil {
			t.Fatal(g, r, err)
		}
		for range 12 {
			d := pt(max(-m, min(m, z.X1+rnd.Int63n(z.X2-z.X1+1))), max(-m, min(m, z.Y1+rnd.Int63n(z.Y2-z.Y1+1))))
			if !zone.Safe(g, r, d) {
				t.Fatal("shift", s, g, "by", d, "isn't safe in", z)
			}
			if g, err = region.Move(g, d); err != nil {
				t.Fatal("shift", s, "by", d, err)
			}
			wantHeld(t, s, g, r)
			z = rc(z.X1-d.X, z.Y1-d.Y, z.X2-d.X, z.Y2-d.Y)
			if got, err := zone.Of(g, r); err != nil || got != z {
				t.Fatal("shift", s, g, "in", r, "may move by", got, err, "not", z)
			}
		}
	}
}
