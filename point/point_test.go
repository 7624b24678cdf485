package point_test

import (
	"math"
	"math/big"
	"testing"

	"plover/api"
	"plover/point"
)

const m = api.MaxCoord

// pt is a point.
func pt(x, y int64) api.Point { return api.Point{X: x, Y: y} }

// grid are all points with coordinates from -n to n.
func grid(n int64) []api.Point {
	var l []api.Point
	for x := -n; x <= n; x++ {
		for y := -n; y <= n; y++ {
			l = append(l, pt(x, y))
		}
	}
	return l
}

// edges are points at, and beside, the edges of what may be.
func edges() []api.Point {
	ns := []int64{-m, -m + 1, -1, 0, m - 1, m}
	var l []api.Point
	for _, x := range ns {
		for _, y := range ns {
			l = append(l, pt(x, y))
		}
	}
	return l
}

// wrong are points that may not be, the outermost numbers among them.
func wrong() []api.Point {
	ns := []int64{math.MinInt64, math.MinInt64 + 1, -2 * m, -m - 1, m + 1, 2 * m, math.MaxInt64 - 1, math.MaxInt64}
	var l []api.Point
	for _, x := range ns {
		l = append(l, pt(x, 0), pt(0, x), pt(m, x), pt(x, -m))
		for _, y := range ns {
			l = append(l, pt(x, y))
		}
	}
	return l
}

// P1.1, May: both coordinates count, and both edges are within.
func TestMay(t *testing.T) {
	for _, p := range append(edges(), grid(2)...) {
		if !point.May(p) {
			t.Error("may not be:", p)
		}
	}
	for _, p := range wrong() {
		if point.May(p) {
			t.Error("may be:", p)
		}
	}
}

// exactTurn works out a turn with numbers of any size.
func exactTurn(a, b, c api.Point) int {
	diff := func(x, y int64) *big.Int { return new(big.Int).Sub(big.NewInt(x), big.NewInt(y)) }
	l := new(big.Int).Mul(diff(b.X, a.X), diff(c.Y, a.Y))
	r := new(big.Int).Mul(diff(b.Y, a.Y), diff(c.X, a.X))
	return l.Cmp(r)
}

// P1.1, Turn: left, right, on a line, two or three that are one.
func TestTurn(t *testing.T) {
	for _, c := range []struct {
		a, b, c api.Point
		want    int
	}{
		{pt(0, 0), pt(1, 0), pt(1, 1), 1},
		{pt(0, 0), pt(1, 0), pt(1, -1), -1},
		{pt(0, 0), pt(0, 5), pt(-1, 2), 1},
		{pt(0, 0), pt(0, 5), pt(1, 2), -1},
		{pt(0, 0), pt(2, 1), pt(4, 2), 0},
		{pt(0, 0), pt(2, 1), pt(-4, -2), 0},
		{pt(0, 0), pt(4, 2), pt(2, 1), 0},
		{pt(3, 4), pt(3, 4), pt(7, 9), 0},
		{pt(3, 4), pt(7, 9), pt(3, 4), 0},
		{pt(7, 9), pt(3, 4), pt(3, 4), 0},
		{pt(3, 4), pt(3, 4), pt(3, 4), 0},
		{pt(-m, -m), pt(m, -m), pt(m, m), 1},
		{pt(-m, -m), pt(m, m), pt(m, -m), -1},
		{pt(-m, -m), pt(m, m), pt(0, 0), 0},
		{pt(-m, -m), pt(m, m), pt(0, 1), 1},
		{pt(-m, -m), pt(m, m), pt(1, 0), -1},
		{pt(-m, -m), pt(m, m-1), pt(m-1, m-2), -1},
		{pt(-m, m), pt(m, -m), pt(m, m), 1},
	} {
		if got := point.Turn(c.a, c.b, c.c); got != c.want {
			t.Error(c.a, c.b, c.c, "turn", got, "not", c.want)
		}
	}
}

// P1.1, Turn: just what exact numbers tell, at the edges too.
func TestTurnIsExact(t *testing.T) {
	for _, l := range [][]api.Point{grid(2), edges()} {
		for _, a := range l {
			for _, b := range l {
				for _, c := range l {
					if got, want := point.Turn(a, b, c), exactTurn(a, b, c); got != want {
						t.Fatal(a, b, c, "turn", got, "not", want)
					}
				}
			}
		}
	}
}

// P1.1, On: the ends, between, beyond, beside, and a segment of one point.
func TestOn(t *testing.T) {
	for _, c := range []struct {
		a, b, c api.Point
		want    bool
	}{
		{pt(0, 0), pt(4, 2), pt(0, 0), true},
		{pt(0, 0), pt(4, 2), pt(4, 2), true},
		{pt(0, 0), pt(4, 2), pt(2, 1), true},
		{pt(4, 2), pt(0, 0), pt(2, 1), true},
		{pt(0, 4), pt(4, 0), pt(1, 3), true},
		{pt(0, 0), pt(4, 2), pt(6, 3), false},
		{pt(0, 0), pt(4, 2), pt(-2, -1), false},
		{pt(0, 0), pt(4, 2), pt(2, 2), false},
		{pt(0, 0), pt(4, 2), pt(3, 1), false},
		{pt(1, 0), pt(1, 5), pt(1, 5), true},
		{pt(1, 0), pt(1, 5), pt(1, 6), false},
		{pt(1, 0), pt(1, 5), pt(1, -1), false},
		{pt(0, 1), pt(5, 1), pt(3, 1), true},
		{pt(0, 1), pt(5, 1), pt(6, 1), false},
		{pt(0, 1), pt(5, 1), pt(-1, 1), false},
		{pt(1, 1), pt(1, 1), pt(1, 1), true},
		{pt(1, 1), pt(1, 1), pt(2, 1), false},
		{pt(1, 1), pt(1, 1), pt(1, 2), false},
		{pt(-m, -m), pt(m, m), pt(0, 0), true},
		{pt(-m, -m), pt(m, m), pt(m, m), true},
		{pt(-m, -m), pt(m, m), pt(m-1, m), false},
		{pt(-m, m), pt(m, -m), pt(m-1, -m+1), true},
		{pt(-m, 0), pt(m-1, 0), pt(m, 0), false},
	} {
		if got := point.On(c.a, c.b, c.c); got != c.want {
			t.Error(c.a, c.b, c.c, "on", got)
		}
	}
}

// dot is the product of the ways from o to a, and to b: how far b goes along a.
func dot(o, a, b api.Point) int64 { return (a.X-o.X)*(b.X-o.X) + (a.Y-o.Y)*(b.Y-o.Y) }

// slowOn goes along the segment: c is on it if it is neither beside, nor before, nor beyond.
func slowOn(a, b, c api.Point) bool {
	if a == b {
		return a == c
	}
	along := dot(a, b, c)
	return exactTurn(a, b, c) == 0 && 0 <= along && along <= dot(a, b, b)
}

// P1.1, On: every small segment and point.
func TestOnEverySmallOne(t *testing.T) {
	l := grid(2)
	for _, a := range l {
		for _, b := range l {
			for _, c := range l {
				if got, want := point.On(a, b, c), slowOn(a, b, c); got != want {
					t.Fatal(a, b, c, "on", got)
				}
			}
		}
	}
}

// crossCase is two segments, and whether they have a point in common.
type crossCase struct {
	a, b, c, d api.Point
	want       bool
}

// crossCases are those that the document names, and what lies just beside.
func crossCases() []crossCase {
	return []crossCase{
		{pt(0, 0), pt(4, 4), pt(0, 4), pt(4, 0), true},
		{pt(0, 0), pt(4, 1), pt(1, 1), pt(3, 0), true},
		{pt(0, 0), pt(4, 0), pt(2, 1), pt(2, 5), false},
		{pt(0, 0), pt(4, 0), pt(5, 1), pt(5, -1), false},
		{pt(0, 0), pt(4, 0), pt(0, 1), pt(4, 1), false},
		// At an end of both, of one.
		{pt(0, 0), pt(4, 0), pt(4, 0), pt(6, 3), true},
		{pt(0, 0), pt(4, 0), pt(0, 0), pt(0, 3), true},
		{pt(0, 0), pt(4, 0), pt(2, 0), pt(2, 5), true},
		{pt(0, 0), pt(4, 0), pt(2, 5), pt(2, 0), true},
		{pt(2, 0), pt(2, 5), pt(0, 0), pt(4, 0), true},
		{pt(2, 5), pt(2, 0), pt(0, 0), pt(4, 0), true},
		// On one line: apart, at an end, in part, one in the other, the same.
		{pt(0, 0), pt(4, 0), pt(5, 0), pt(8, 0), false},
		{pt(0, 0), pt(4, 2), pt(6, 3), pt(8, 4), false},
		{pt(0, 0), pt(4, 0), pt(4, 0), pt(8, 0), true},
		{pt(0, 0), pt(4, 2), pt(2, 1), pt(8, 4), true},
		{pt(0, 0), pt(8, 4), pt(2, 1), pt(4, 2), true},
		{pt(2, 1), pt(4, 2), pt(0, 0), pt(8, 4), true},
		{pt(0, 0), pt(4, 2), pt(0, 0), pt(4, 2), true},
		{pt(0, 0), pt(4, 2), pt(4, 2), pt(0, 0), true},
		// Of one point.
		{pt(2, 1), pt(2, 1), pt(0, 0), pt(4, 2), true},
		{pt(0, 0), pt(4, 2), pt(2, 1), pt(2, 1), true},
		{pt(6, 3), pt(6, 3), pt(0, 0), pt(4, 2), false},
		{pt(2, 2), pt(2, 2), pt(0, 0), pt(4, 2), false},
		{pt(1, 1), pt(1, 1), pt(1, 1), pt(1, 1), true},
		{pt(1, 1), pt(1, 1), pt(1, 2), pt(1, 2), false},
		// At the edges of what may be.
		{pt(-m, -m), pt(m, m), pt(-m, m), pt(m, -m), true},
		{pt(-m, -m), pt(m, m), pt(-m, -m+1), pt(m-1, m), false},
		{pt(-m, -m), pt(m, m-1), pt(m, m), pt(m, m-1), true},
		{pt(-m, -m), pt(m-1, m-1), pt(m, m), pt(m, -m), false},
		{pt(-m, 0), pt(-1, 0), pt(0, 0), pt(m, 0), false},
		{pt(-m, 0), pt(0, 0), pt(0, 0), pt(m, 0), true},
	}
}

// P1.1, Cross: whichever segment is told first, and from whichever end.
func TestCross(t *testing.T) {
	for _, c := range crossCases() {
		for _, s := range [][4]api.Point{
			{c.a, c.b, c.c, c.d}, {c.b, c.a, c.c, c.d}, {c.a, c.b, c.d, c.c}, {c.b, c.a, c.d, c.c},
			{c.c, c.d, c.a, c.b}, {c.d, c.c, c.a, c.b}, {c.c, c.d, c.b, c.a}, {c.d, c.c, c.b, c.a},
		} {
			if got := point.Cross(s[0], s[1], s[2], s[3]); got != c.want {
				t.Error(s, "cross", got)
			}
		}
	}
}

// slowCross solves for the place where the lines meet; of lines that don't, or are one,
// an end of one segment must be on the other one.
func slowCross(a, b, c, d api.Point) bool {
	det := (b.X-a.X)*(d.Y-c.Y) - (b.Y-a.Y)*(d.X-c.X)
	if det == 0 {
		return slowOn(a, b, c) || slowOn(a, b, d) || slowOn(c, d, a) || slowOn(c, d, b)
	}
	s := (c.X-a.X)*(d.Y-c.Y) - (c.Y-a.Y)*(d.X-c.X)
	u := (c.X-a.X)*(b.Y-a.Y) - (c.Y-a.Y)*(b.X-a.X)
	if det < 0 {
		det, s, u = -det, -s, -u
	}
	return 0 <= s && s <= det && 0 <= u && u <= det
}

// P1.1, Cross: every two small segments.
func TestCrossEverySmallOne(t *testing.T) {
	l := grid(2)
	for _, a := range l {
		for _, b := range l {
			for _, c := range l {
				for _, d := range l {
					if got, want := point.Cross(a, b, c, d), slowCross(a, b, c, d); got != want {
						t.Fatal(a, b, c, d, "cross", got)
					}
				}
			}
		}
	}
}

// P1.2: what may be is the sum.
func TestAdd(t *testing.T) {
	for _, c := range []struct{ p, d, want api.Point }{
		{pt(1, 2), pt(-3, 4), pt(-2, 6)},
		{pt(5, 7), pt(0, 0), pt(5, 7)},
		{pt(0, 0), pt(5, 7), pt(5, 7)},
		{pt(0, 0), pt(m, -m), pt(m, -m)},
		{pt(m, -m), pt(-m, m), pt(0, 0)},
		{pt(m, m), pt(0, 0), pt(m, m)},
		{pt(m-1, -m+1), pt(1, -1), pt(m, -m)},
		{pt(-m+1, m-1), pt(-1, 1), pt(-m, m)},
	} {
		if q, err := point.Add(c.p, c.d); err != nil || q != c.want {
			t.Error(c.p, c.d, "come to", q, err)
		}
	}
}

// wantRange fails if a move isn't refused, by ErrRange itself, with a zero point (R3).
func wantRange(t *testing.T, p, d api.Point) {
	t.Helper()
	if q, err := point.Add(p, d); err != api.ErrRange || q != (api.Point{}) {
		t.Error(p, d, "come to", q, err)
	}
}

// P1.2: what comes of it may not be.
func TestAddBeyond(t *testing.T) {
	for _, c := range [][2]api.Point{
		{pt(m, 0), pt(1, 0)}, {pt(0, m), pt(0, 1)}, {pt(-m, 0), pt(-1, 0)}, {pt(0, -m), pt(0, -1)},
		{pt(1, 0), pt(m, 0)}, {pt(0, -1), pt(0, -m)}, {pt(m, m), pt(m, m)}, {pt(-m, -m), pt(-m, -m)},
		{pt(m, m), pt(-m, 1)}, {pt(m, m), pt(1, -m)},
	} {
		wantRange(t, c[0], c[1])
	}
}

// P1.2: a point may not be, be it the one or the other, even where the sum could.
func TestAddWrongPoints(t *testing.T) {
	for _, w := range wrong() {
		wantRange(t, w, pt(0, 0))
		wantRange(t, pt(0, 0), w)
		wantRange(t, w, w)
	}
	wantRange(t, pt(m+1, 0), pt(-1, 0))
	wantRange(t, pt(-m, 0), pt(m+1, 0))
	wantRange(t, pt(-m, -m), pt(2*m, 2*m))
	wantRange(t, pt(math.MaxInt64, 0), pt(math.MinInt64, 0))
	wantRange(t, pt(0, math.MinInt64), pt(0, math.MinInt64))
}

// P1.3: turned round, and with any two changed about, a turn is the other one.
func TestTurnedRound(t *testing.T) {
	for _, l := range [][]api.Point{grid(2), edges()} {
		for _, a := range l {
			for _, b := range l {
				for _, c := range l {
					n := point.Turn(a, b, c)
					if point.Turn(c, b, a) != -n || point.Turn(b, a, c) != -n || point.Turn(a, c, b) != -n {
						t.Fatal(a, b, c, "turned round")
					}
				}
			}
		}
	}
}

// moveAll moves points alike; false, if one goes beyond what may be.
func moveAll(l [3]api.Point, d api.Point) ([3]api.Point, bool) {
	for i, p := range l {
		q, err := point.Add(p, d)
		if err != nil {
			return l, false
		}
		l[i] = q
	}
	return l, true
}

// P1.3: points moved alike turn alike, up to the edges.
func TestMovedAlike(t *testing.T) {
	moves := append(edges(), pt(5, -7), pt(m-2, 2-m), pt(2-m, m-2), pt(m-2, m-2), pt(2-m, 2-m))
	moved := 0
	l := append(grid(1), pt(-2, 2), pt(2, 1), pt(m, m), pt(-m, m), pt(m, -m))
	for _, a := range l {
		for _, b := range l {
			for _, c := range l {
				for _, d := range moves {
					k, ok := moveAll([3]api.Point{a, b, c}, d)
					if !ok {
						continue
					}
					moved++
					if point.Turn(k[0], k[1], k[2]) != point.Turn(a, b, c) {
						t.Fatal(a, b, c, "moved by", d)
					}
				}
			}
		}
	}
	if moved < 10000 {
		t.Error("too few moves looked at:", moved)
	}
}

// P1: no call panics at points that may not be, and a turn is always -1, 0 or 1.
func TestWrongPoints(t *testing.T) {
	l := append(wrong(), pt(0, 0), pt(m, -m))
	for _, a := range l {
		for _, b := range l {
			for _, c := range l {
				if n := point.Turn(a, b, c); n < -1 || n > 1 {
					t.Fatal(a, b, c, "turn", n)
				}
				point.On(a, b, c)
				point.Cross(a, b, c, a)
				point.Cross(a, c, b, pt(0, 0))
			}
		}
	}
}
