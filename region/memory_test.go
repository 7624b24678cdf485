package region_test

import (
	"slices"
	"testing"

	"plover/api"
	"plover/region"
)

// spoil changes all points that a list has, and could grow to.
func spoil(l []api.Point) {
	l = l[:cap(l)]
	for i := range l {
		l[i] = pt(^l[i].X, ^l[i].Y)
	}
}

// roomy is a list in memory that has more behind it, of other points.
func roomy(l []api.Point, room int) []api.Point {
	all := append(make([]api.Point, 0, len(l)+room), l...)
	for i := range room {
		all = append(all, pt(int64(i), 7))
	}
	return all[:len(l)]
}

// wantRoomy fails if points, or those behind them, were changed.
func wantRoomy(t *testing.T, got, l []api.Point, room int) {
	t.Helper()
	if len(got) != len(l) || !slices.Equal(got[:cap(got)], roomy(l, room)[:len(l)+room]) {
		t.Fatal("changed to", got[:cap(got)])
	}
}

// rooms are how much more memory lists have.
func rooms() []int { return []int{0, 1, 3, 64, 100} }

// all calls each function with a region.
func all(g, other api.Region) {
	region.May(g)
	region.Box(g)
	region.Same(g, other)
	region.Same(other, g)
	for _, p := range pts(0, 0, 1, 1, m, m, -m, m, m+1, 0) {
		region.In(g, p)
		region.Move(g, p)
	}
}

// R2: no call changes a region, nor what stands behind its points, be it one that may be or not.
func TestNothingIsChanged(t *testing.T) {
	l := wrongs()
	for _, c := range rights() {
		l = append(l, ways(c.g)[0])
	}
	for _, c := range l {
		if len(c.Poly) > 1000 {
			continue
		}
		for _, room := range rooms() {
			g := api.Region{Rect: c.Rect, Poly: roomy(c.Poly, room)}
			all(g, box(0, 0, 1, 1))
			all(g, g)
			wantRoomy(t, g.Poly, c.Poly, room)
			if g.Rect != c.Rect {
				t.Fatal(c, "is changed to", g)
			}
		}
	}
}

// P16.3: what Move told may change, and all that it could grow to: what was handed in stays, and what was told else.
func TestToldMayChange(t *testing.T) {
	for _, c := range rights() {
		for _, d := range append(moves(c.box), pt(0, 0)) {
			want, ok := slowMove(c.g, d)
			if !ok {
				continue
			}
			for _, room := range rooms() {
				g := api.Region{Rect: c.g.Rect, Poly: roomy(c.g.Poly, room)}
				one, errOne := region.Move(g, d)
				other, errOther := region.Move(g, d)
				if errOne != nil || errOther != nil {
					t.Fatal(g, "by", d, errOne, errOther)
				}
				spoil(one.Poly)
				_ = append(one.Poly, pt(5, 5))
				wantRoomy(t, g.Poly, c.g.Poly, room)
				if g.Rect != c.g.Rect || text(other) != text(want) {
					t.Fatal(g, "by", d, "told", other)
				}
				wantMoved(t, g, d, want)
			}
		}
	}
}

// P16.3: what was handed in to Move may change, and what stands behind it: what was told stays.
func TestGivenMayChange(t *testing.T) {
	for _, c := range rights() {
		for _, d := range append(moves(c.box), pt(0, 0)) {
			want, ok := slowMove(c.g, d)
			if !ok {
				continue
			}
			for _, room := range rooms() {
				g := api.Region{Rect: c.g.Rect, Poly: roomy(c.g.Poly, room)}
				got, err := region.Move(g, d)
				if err != nil {
					t.Fatal(g, "by", d, err)
				}
				spoil(g.Poly)
				if text(got) != text(want) {
					t.Fatal(c.g, "by", d, "told", got)
				}
				spoil(g.Poly) // as it was
				wantRoomy(t, g.Poly, c.g.Poly, room)
			}
		}
	}
}

// P16.3: moved again and again each one has memory of its own, by moves of nothing too.
func TestToldApart(t *testing.T) {
	for _, c := range rights() {
		l := []api.Region{{Rect: c.g.Rect, Poly: roomy(c.g.Poly, 3)}}
		for range 5 {
			next, err := region.Move(l[len(l)-1], pt(0, 0))
			if err != nil {
				t.Fatal(c.g, err)
			}
			l = append(l, next)
		}
		for i := range l {
			spoil(l[i].Poly)
			for j := i + 1; j < len(l); j++ {
				if text(l[j]) != text(c.g) {
					t.Fatal(c.g, i, j, "share memory")
				}
			}
		}
	}
}

// R2: nothing is kept: asked once more behind a change of what was handed in, it is what it is then.
func TestNothingIsKept(t *testing.T) {
	g := shape(0, 0, 4, 0, 0, 4)
	for range 2 {
		all(g, g)
		g.Poly[2] = pt(1, 4)
		wantAll(t, g, points(0, 1, 4), pts(1, 1))
		g.Poly[2] = pt(9, 0)
		wantAll(t, g, points(0, 1, 4), pts(1, 1))
		g.Poly[2] = pt(0, 4)
		wantAll(t, g, points(0, 1, 4), pts(1, 1))
	}
}
