package zone_test

import (
	"slices"
	"testing"

	"plover/api"
	"plover/zone"
)

// roomy is a list in memory that has more behind it, of other points.
func roomy(l []api.Point, room int) []api.Point {
	l = append(make([]api.Point, 0, len(l)+room), l...)
	for i := range room {
		l = append(l, pt(int64(i), 7))
	}
	return l[:len(l)-room]
}

// R2: no call changes a region, nor what stands behind its points, be it one that may be or not.
func TestNothingIsChanged(t *testing.T) {
	l := append(wrongs(), api.Region{Poly: bowl(64)}, shape(3, 0, 6, 3, 3, 6, 0, 3), shape(-5, -5, 1, -5, -5, 1), api.Region{})
	for _, r := range boxes() {
		l = append(l, both(r)...)
	}
	for _, c := range l {
		if len(c.Poly) > 1000 {
			continue
		}
		for _, room := range []int{0, 1, 3, 64, 100} {
			g := api.Region{Rect: c.Rect, Poly: roomy(c.Poly, room)}
			for _, cover := range []api.Rect{all(), rc(0, 0, 9, 9), c.Rect, rc(1, 0, 0, 0)} {
				zone.Of(g, cover)
				zone.Safe(g, cover, pt(0, 0))
				zone.Safe(g, cover, pt(-1, m+1))
			}
			zone.Cover(24, g)
			zone.Cover(32, g)
			if want := roomy(c.Poly, room); g.Rect != c.Rect || len(g.Poly) != len(want) || !slices.Equal(g.Poly[:cap(g.Poly)], want[:cap(want)]) {
				t.Fatal(c, "is changed to", g.Rect, g.Poly[:cap(g.Poly)])
			}
		}
	}
}

// R2: nothing is kept: asked once more behind a change of what was handed in, it is what it is then.
func TestNothingIsKept(t *testing.T) {
	g := shape(1, 2, 4, 2, 1, 5)
	for range 3 {
		wantZone(t, g, rc(0, 0, 10, 10), rc(-1, -2, 6, 5))
		wantCover(t, 24, g, rc(0, 0, 1<<24-1, 1<<24-1))
		g.Poly[2] = pt(-1, 5)
		wantRefused(t, g, rc(0, 0, 10, 10))
		wantZone(t, g, rc(-1, 0, 10, 10), rc(0, -2, 6, 5))
		wantCover(t, 24, g, rc(-1<<24, 0, 1<<24-1, 1<<24-1))
		g.Poly[2] = pt(2, 2)
		wantRefused(t, g, rc(0, 0, 10, 10))
		wantNoCover(t, 24, g)
		g.Poly[2] = pt(1, 5)
	}
}

// P1: all calls end, at lists that are much too long too.
func TestMuchTooLong(t *testing.T) {
	for _, g := range []api.Region{{Poly: make([]api.Point, 1<<20)}, {Poly: bowl(100000)}} {
		wantRefused(t, g, all())
		wantNoCover(t, 24, g)
	}
}
