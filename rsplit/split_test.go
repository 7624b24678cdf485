package rsplit_test

import (
	"math/rand"
	"slices"
	"testing"

	"plover/api"
	"plover/rsplit"
)

// wantSplit fails if rectangles aren't split so.
func wantSplit(t *testing.T, l []api.Rect, min int, a, b []int) {
	t.Helper()
	gotA, gotB, err := rsplit.Split(l, min)
	if err != nil || !slices.Equal(gotA, a) || !slices.Equal(gotB, b) {
		t.Fatalf("%v, min %d: %v, %v, %v, not %v, %v", l, min, gotA, gotB, err, a, b)
	}
}

// checkSplit holds Split against the oracle, at each min.
func checkSplit(t *testing.T, l []api.Rect, seen met) {
	t.Helper()
	for min := 1; 2*min <= len(l); min++ {
		a, b := slowSplit(l, min, seen)
		wantSplit(t, l, min, a, b)
	}
}

// times are so many of one rectangle.
func times(n int, r api.Rect) []api.Rect { return slices.Repeat([]api.Rect{r}, n) }

// rising are the numbers from one up to another one, without that.
func rising(from, to int) []int {
	var l []int
	for i := from; i < to; i++ {
		l = append(l, i)
	}
	return l
}

// P13.1, Split: each edge that there is, worked out by hand, and the oracle of the tests against the same.
func TestSplit(t *testing.T) {
	for _, c := range []struct {
		name string
		l    []api.Rect
		min  int
		a, b []int
	}{
		{"points along x", []api.Rect{at(0, 0), at(1, 0), at(2, 0), at(3, 0)}, 2, []int{0, 1}, []int{2, 3}},
		{"points along x, turned about", []api.Rect{at(3, 0), at(0, 0), at(2, 0), at(1, 0)}, 2, []int{1, 3}, []int{2, 0}},
		{"points along x, min 1", []api.Rect{at(3, 0), at(0, 0), at(2, 0), at(1, 0)}, 1, []int{1}, []int{3, 2, 0}},
		{"points along y", []api.Rect{at(0, 3), at(0, 0), at(0, 2), at(0, 1)}, 2, []int{1, 3}, []int{2, 0}},
		{"points along y, min 1", []api.Rect{at(0, 3), at(0, 0), at(0, 2), at(0, 1)}, 1, []int{1}, []int{3, 2, 0}},
		{"two, turned about", []api.Rect{rc(5, 5, 6, 6), rc(0, 0, 1, 1)}, 1, []int{1}, []int{0}},
		{"just twice min", []api.Rect{at(9, 0), at(1, 0), at(8, 0), at(2, 0), at(7, 0), at(3, 0)}, 3, []int{1, 3, 5}, []int{4, 2, 0}},
		{"all one", times(5, rc(1, 1, 2, 2)), 2, []int{0, 1}, []int{2, 3, 4}},
		{"all one, min 1", times(5, rc(1, 1, 2, 2)), 1, []int{0}, []int{1, 2, 3, 4}},
		{"all one point", times(4, at(7, 7)), 2, []int{0, 1}, []int{2, 3}},
		{"alike ones stay as they stand", []api.Rect{at(9, 0), at(1, 0), at(9, 0), at(1, 0), at(9, 0), at(1, 0)}, 3, []int{1, 3, 5}, []int{0, 2, 4}},
		{"one low side, other high sides", []api.Rect{rc(0, 0, 9, 1), rc(0, 0, 1, 1), rc(0, 0, 4, 1), rc(0, 0, 2, 1)}, 2, []int{1, 3}, []int{2, 0}},
		{"one low side, other high sides, by y", []api.Rect{rc(0, 0, 1, 9), rc(0, 0, 1, 1), rc(0, 0, 1, 4), rc(0, 0, 1, 2)}, 2, []int{1, 3}, []int{2, 0}},
		{"one high side, other low sides", []api.Rect{rc(0, 0, 9, 1), rc(8, 0, 9, 1), rc(3, 0, 9, 1), rc(7, 0, 9, 1)}, 2, []int{0, 2}, []int{3, 1}},
		{"one high side, other low sides, by y", []api.Rect{rc(0, 0, 1, 9), rc(0, 8, 1, 9), rc(0, 3, 1, 9), rc(0, 7, 1, 9)}, 2, []int{0, 2}, []int{3, 1}},
		// By the low side the parts have 7 in common, by the high side 3, which two have alike, and 0 and 9 as the other one.
		{"by the high side", []api.Rect{rc(9, 0, 10, 1), rc(1, 0, 2, 1), rc(0, 0, 10, 1), rc(3, 0, 4, 1)}, 2, []int{1, 3}, []int{2, 0}},
		{"by the high side, by y", []api.Rect{rc(0, 9, 1, 10), rc(0, 1, 1, 2), rc(0, 0, 1, 10), rc(0, 3, 1, 4)}, 2, []int{1, 3}, []int{2, 0}},
		{"alike axes: x", []api.Rect{at(0, 3), at(1, 2), at(2, 1), at(3, 0)}, 2, []int{0, 1}, []int{2, 3}},
		{"alike axes: x, though it stands otherwise", []api.Rect{at(3, 0), at(2, 1), at(1, 2), at(0, 3)}, 2, []int{3, 2}, []int{1, 0}},
		{"alike overlap: the areas", []api.Rect{at(0, 0), at(1, 1), at(10, 10), at(11, 11), at(12, 12)}, 1, []int{0, 1}, []int{2, 3, 4}},
		{"alike overlap and areas: the order by the low side", []api.Rect{rc(1, 0, 2, 1), rc(0, 0, 3, 1)}, 1, []int{1}, []int{0}},
		{"alike overlap and areas: the fewest first", []api.Rect{at(0, 0), at(10, 10), at(20, 20), at(5, 5), at(15, 15)}, 1, []int{0, 3}, []int{1, 4, 2}},
		{"the corners of all", []api.Rect{at(-m, -m), at(m, m), at(-m, m), at(m, -m)}, 2, []int{0, 2}, []int{1, 3}},
		{"the greatest areas", []api.Rect{whole(), at(m, m), whole(), at(-m, -m)}, 2, []int{3, 0}, []int{2, 1}},
		{"all are the greatest", times(100, whole()), 50, rising(0, 50), rising(50, 100)},
		{"all are the greatest, min 1", times(100, whole()), 1, []int{0}, rising(1, 100)},
		{"by x, the greatest", []api.Rect{rc(m-1, -m, m, m), rc(-m, -m, m-1, m), rc(-m, -m, -m+1, m), rc(-m+1, -m, m, m)}, 1, []int{2}, []int{1, 3, 0}},
	} {
		t.Run(c.name, func(t *testing.T) {
			wantSplit(t, c.l, c.min, c.a, c.b)
			if a, b := slowSplit(c.l, c.min, met{}); !slices.Equal(a, c.a) || !slices.Equal(b, c.b) {
				t.Error("the oracle has", a, b)
			}
		})
	}
}

// P13.1, Split: 100 rectangles, at any min.
func TestSplitHundred(t *testing.T) {
	var x, y []api.Rect
	order := make([]int, 100)
	for i := range 100 {
		n := i * 37 % 100
		x, y = append(x, at(int64(n), 5)), append(y, rc(5, int64(n), 6, int64(n)))
		order[n] = i
	}
	for _, min := range []int{1, 2, 49, 50} {
		// Each cut of points on a line has no area at all.
		wantSplit(t, x, min, order[:min], order[min:])
		// Of lines beside each other the areas sum up to 98, however they are cut.
		wantSplit(t, y, min, order[:min], order[min:])
	}
}

// P13.1, Split: all lists of up to four rectangles of two different sides, of up to three of three ones, and of four points.
func TestSplitEveryList(t *testing.T) {
	seen := met{}
	for _, sides := range [][]int64{{0, 1}, {-m, m}, {m - 1, m}} {
		for n := 2; n <= 4; n++ {
			everyList(everyRect(sides), n, func(l []api.Rect) { checkSplit(t, l, seen) })
		}
	}
	for _, sides := range [][]int64{{-1, 0, 2}, {-m, 0, m}} {
		everyList(everyRect(sides), 2, func(l []api.Rect) { checkSplit(t, l, seen) })
	}
	everyList(everyRect([]int64{0, 1, 3}), 3, func(l []api.Rect) { checkSplit(t, l, seen) })
	var points []api.Rect
	for i := range int64(9) {
		points = append(points, at(i%3, i/3))
	}
	everyList(points, 4, func(l []api.Rect) { checkSplit(t, l, seen) })
}

// enough fails if what was drawn was too seldom so.
func enough(t *testing.T, seen met, least int, whats ...string) {
	t.Helper()
	for _, what := range whats {
		if seen[what] < least {
			t.Error(what, "was met", seen[what], "times")
		}
	}
}

// P13.1, Split: drawn rectangles of few different sides, at each min, against the oracle.
func TestSplitDrawn(t *testing.T) {
	rnd := rand.New(rand.NewSource(131))
	seen := met{}
	for range 8000 {
		checkSplit(t, draw(rnd, 2+rnd.Intn(6), drawSides(rnd)), seen)
	}
	for range 300 {
		checkSplit(t, draw(rnd, 8+rnd.Intn(12), drawSides(rnd)), seen)
	}
	enough(t, seen, 500, "the axis is y", "alike axes that split otherwise", "the cut is by the high side", "the parts overlap",
		"cuts of alike overlap", "cuts of alike overlap and areas", "cuts of alike overlap and areas in both orders")
}

// P13.1, Split: many drawn rectangles, at some mins, against the oracle.
func TestSplitDrawnMany(t *testing.T) {
	rnd := rand.New(rand.NewSource(132))
	for i := range 20 {
		n := 100 - i%3
		l := draw(rnd, n, drawSides(rnd))
		for _, min := range []int{1, 1 + rnd.Intn(n/2), n / 2} {
			a, b := slowSplit(l, min, met{})
			wantSplit(t, l, min, a, b)
		}
	}
}

// P13.3: both parts have all places, each once, and min at least: any rectangles, any min.
func TestSplitHasAll(t *testing.T) {
	rnd := rand.New(rand.NewSource(133))
	for i := range 2000 {
		n := 2 + rnd.Intn(12)
		if i%40 == 0 {
			n = 100 - rnd.Intn(20)
		}
		l := draw(rnd, n, drawSides(rnd))
		for min := 1; 2*min <= n; min++ {
			a, b, err := rsplit.Split(l, min)
			if err != nil || len(a) < min || len(b) < min {
				t.Fatal(l, min, a, b, err)
			}
			all := append(slices.Clone(a), b...)
			slices.Sort(all)
			if !slices.Equal(all, rising(0, n)) {
				t.Fatal(l, min, a, b)
			}
		}
	}
}
