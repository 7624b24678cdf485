package rsplit_test

import (
	"math/rand"
	"slices"
	"testing"

	"plover/api"
	"plover/rsplit"
)

// wantChoose fails if another one is chosen.
func wantChoose(t *testing.T, l []api.Rect, r api.Rect, leaves bool, want int) {
	t.Helper()
	if n, err := rsplit.Choose(l, r, leaves); n != want || err != nil {
		t.Fatalf("%v for %v, leaves %v: %v, %v, not %v", l, r, leaves, n, err, want)
	}
}

// checkChoose holds Choose against the oracle, at the leaves and not.
func checkChoose(t *testing.T, l []api.Rect, r api.Rect, seen met) {
	t.Helper()
	leaf, other := slowChoose(l, r, true, seen), slowChoose(l, r, false, seen)
	wantChoose(t, l, r, true, leaf)
	wantChoose(t, l, r, false, other)
	if leaf != other {
		seen["leaves choose otherwise"]++
	}
}

// wide has a fifth of 2^64, rounded up, times 2^31 as its area: five of them are 3 times 2^31 too much for 64 bits.
const wide = 1717986919

// greatOverlaps are one point, of which the overlap with five others grows by more than fits into 64 bits if it takes
// the corner at the other end in, and these five.
func greatOverlaps() []api.Rect {
	byX, byY := rc(-m, -m, -m+wide, m), rc(-m, -m, m, -m+wide)
	return []api.Rect{at(-m, -m), byX, byY, byX, byY, byX}
}

// P13.1, Choose: each edge that there is, worked out by hand, and the oracle of the tests against the same.
func TestChoose(t *testing.T) {
	for _, c := range []struct {
		name        string
		l           []api.Rect
		r           api.Rect
		leaves, not int
	}{
		{"one alone", []api.Rect{rc(0, 0, 1, 1)}, at(9, 9), 0, 0},
		{"one alone, far off", []api.Rect{at(-m, -m)}, at(m, m), 0, 0},
		{"one alone, that is it", []api.Rect{whole()}, whole(), 0, 0},
		{"alike ones", times(5, rc(0, 0, 1, 1)), rc(4, 5, 6, 7), 0, 0},
		{"alike ones, that have it", times(100, whole()), at(0, 0), 0, 0},
		{"alike points", times(100, at(m, m)), at(-m, -m), 0, 0},
		{"one that has it", []api.Rect{rc(0, 0, 10, 10), rc(20, 0, 30, 10), rc(40, 0, 50, 10)}, rc(21, 1, 22, 2), 1, 1},
		{"one that has it at its side", []api.Rect{rc(0, 0, 10, 10), rc(20, 0, 30, 10), rc(40, 0, 50, 10)}, rc(30, 0, 30, 10), 1, 1},
		{"the lesser one of two that have it", []api.Rect{rc(0, 0, 10, 10), rc(0, 0, 4, 4)}, rc(1, 1, 2, 2), 1, 1},
		{"the first one of two that have it", []api.Rect{rc(0, 0, 9, 9), rc(0, 0, 8, 2), rc(0, 0, 2, 8)}, rc(1, 1, 2, 2), 1, 1},
		{"less growth", []api.Rect{rc(0, 0, 2, 2), rc(5, 0, 7, 2)}, at(4, 0), 1, 1},
		{"no overlap at all", []api.Rect{rc(0, 0, 1, 1), rc(0, 10, 1, 11), rc(0, 20, 1, 21)}, rc(0, 13, 1, 14), 1, 1},
		{"alike growth: the lesser one", []api.Rect{rc(4, 0, 9, 2), rc(0, 0, 2, 2)}, at(3, 0), 1, 1},
		{"alike growth and areas: the first one", []api.Rect{rc(4, 0, 6, 2), rc(0, 0, 2, 2)}, at(3, 1), 0, 0},
		{"alike growth and areas: the first one, the other way round", []api.Rect{rc(0, 0, 2, 2), rc(4, 0, 6, 2)}, at(3, 1), 0, 0},
		// Taking it in, the first one grows by 4, right through the second one; that one grows by 100, and meets none.
		{"less overlap, or less growth", []api.Rect{rc(0, 0, 1, 1), rc(2, 0, 4, 100)}, at(5, 0), 1, 0},
		// The second one has 81 in common with the first one, before and behind; the last one has nothing, before and behind.
		{"growth of overlap, not overlap", []api.Rect{rc(0, 0, 9, 9), rc(0, 0, 9, 10), rc(10, 0, 11, 1)}, rc(9, 9, 10, 10), 1, 1},
		{"at one end", []api.Rect{at(-m, -m), at(m, m), at(-m, m), at(m, -m)}, at(m-1, m-1), 1, 1},
		{"the greatest areas", []api.Rect{whole(), rc(-m, -m, m, m-1), rc(-m, -m, m-1, m)}, at(m, m), 0, 0},
		{"the greatest growth", []api.Rect{at(-m, -m), rc(m-1, -m, m, -m)}, at(m, m), 1, 1},
		{"overlaps greater than 64 bits", greatOverlaps(), at(m, m), 1, 1},
		{"overlaps greater than 64 bits, and one more that is 0", append(greatOverlaps(), at(-m, -m)), at(m, m), 1, 1},
		// Each half grows by as many halves as there are on the other side: 8 of them have 2^64.
		{"overlaps some times 2^64", append(times(40, rc(-m, -m, 0, m)), times(25, rc(0, -m, m, m))...), whole(), 0, 0},
		{"overlaps some times 2^64, the other way round", append(times(24, rc(-m, -m, 0, m)), times(39, rc(0, -m, m, m))...), whole(), 24, 0},
		// The first one's overlap grows by 2^60, that of the second one by 1 less.
		{"great overlaps that differ by 1", []api.Rect{rc(1, -m, m, 1), rc(-m+1, -m+1, 1, m)}, rc(-m, -m, m, 0), 1, 0},
	} {
		t.Run(c.name, func(t *testing.T) {
			for _, leaves := range []bool{true, false} {
				want := c.not
				if leaves {
					want = c.leaves
				}
				wantChoose(t, c.l, c.r, leaves, want)
				if n := slowChoose(c.l, c.r, leaves, met{}); n != want {
					t.Error("leaves", leaves, "the oracle has", n)
				}
			}
		})
	}
}

// P13.1, Choose: overlaps whose sums are about 2^62, 2^63, 2^64 and more, against the oracle.
func TestChooseGreatOverlaps(t *testing.T) {
	for n := 1; n < 100; n++ {
		checkChoose(t, append([]api.Rect{at(-m, -m)}, times(n, rc(-m, -m, m, m-1))...), at(m, m), met{})
		var l []api.Rect
		for i := range n {
			// As many as these have nearly a 2^64 of overlap with one that takes all in.
			side := min(int64(1)<<33/int64(n)+int64(i%3)-1, 2*m)
			l = append(l, rc(-m, -m, -m+side, m), rc(-m, -m, m, -m+side))
		}
		l = append(l[:n], at(-m, -m))
		checkChoose(t, l, at(m, m), met{})
		slices.Reverse(l)
		checkChoose(t, l, at(m, m), met{})
	}
}

// P13.1, Choose: many drawn rectangles of the greatest sides, for the greatest one, against the oracle.
func TestChooseGreatOverlapsDrawn(t *testing.T) {
	rnd := rand.New(rand.NewSource(139))
	for range 100 {
		l := draw(rnd, 20+rnd.Intn(81), [][]int64{{-m, 0, m}, {-m, -m + 1, 0, m - 1, m}, {-m, -1, 1, m}}[rnd.Intn(3)])
		// One that is the greatest would be chosen.
		l = slices.DeleteFunc(l, func(r api.Rect) bool { return r == whole() })
		checkChoose(t, l, whole(), met{})
	}
}

// P13.1, Choose: 100 rectangles, of which each one is chosen once.
func TestChooseHundred(t *testing.T) {
	var l []api.Rect
	for i := range int64(100) {
		l = append(l, rc(i%10*10, i/10*10, i%10*10+5, i/10*10+5))
	}
	for i, r := range l {
		for _, leaves := range []bool{true, false} {
			wantChoose(t, l, r, leaves, i)
			wantChoose(t, l, at(r.X2+1, r.Y1+3), leaves, i)
			wantChoose(t, l, at(r.X1+2, r.Y2+2), leaves, i)
		}
	}
}

// P13.1, Choose: all lists of up to three rectangles of two different sides for each one of three sides, and of two
// of three sides for each one of those.
func TestChooseEveryList(t *testing.T) {
	for _, sides := range [][]int64{{0, 1, 2}, {-m, 0, m}, {-m, m - 1, m}} {
		all := everyRect(sides)
		for n := 1; n <= 3; n++ {
			everyList(everyRect(sides[:2]), n, func(l []api.Rect) {
				for _, r := range all {
					checkChoose(t, l, r, met{})
				}
			})
		}
	}
	all := everyRect([]int64{0, 1, 3})
	everyList(all, 2, func(l []api.Rect) {
		for _, r := range all {
			checkChoose(t, l, r, met{})
		}
	})
}

// P13.1, Choose: drawn rectangles of few different sides against the oracle.
func TestChooseDrawn(t *testing.T) {
	rnd := rand.New(rand.NewSource(134))
	seen := met{}
	for range 20000 {
		sides := drawSides(rnd)
		l := draw(rnd, 1+rnd.Intn(8), sides)
		checkChoose(t, l, drawRect(rnd, sides), seen)
		checkChoose(t, l, drawRect(rnd, drawSides(rnd)), seen)
	}
	for range 40 {
		l := draw(rnd, 60+rnd.Intn(41), drawSides(rnd))
		checkChoose(t, l, drawRect(rnd, drawSides(rnd)), seen)
	}
	enough(t, seen, 1000, "leaves choose otherwise",
		"at the leaves: overlap", "at the leaves: growth", "at the leaves: area", "at the leaves: first",
		"not at the leaves: growth", "not at the leaves: area", "not at the leaves: first")
}
