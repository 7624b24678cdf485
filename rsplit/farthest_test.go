package rsplit_test

import (
	"math/rand"
	"slices"
	"testing"

	"plover/api"
	"plover/rsplit"
)

// wantFarthest fails if others are told.
func wantFarthest(t *testing.T, l []api.Rect, many int, want []int) {
	t.Helper()
	if got, err := rsplit.Farthest(l, many); err != nil || !slices.Equal(got, want) {
		t.Fatalf("%d of %v: %v, %v, not %v", many, l, got, err, want)
	}
}

// checkFarthest holds Farthest against the oracle, at each many.
func checkFarthest(t *testing.T, l []api.Rect, seen met) {
	t.Helper()
	for many := range len(l) + 1 {
		wantFarthest(t, l, many, slowFarthest(l, many, seen))
	}
}

// P13.1, Farthest: each edge that there is, worked out by hand (all of them, by rising distance: fewer are the last of
// these), and the oracle of the tests against the same.
func TestFarthest(t *testing.T) {
	for _, c := range []struct {
		name string
		l    []api.Rect
		all  []int
	}{
		{"none", nil, nil},
		{"one", []api.Rect{rc(3, 4, 5, 6)}, []int{0}},
		{"two are equally far", []api.Rect{at(0, 0), at(10, 0)}, []int{0, 1}},
		{"one is in the middle", []api.Rect{at(5, 0), at(0, 0), at(10, 0)}, []int{0, 1, 2}},
		{"one is near", []api.Rect{at(0, 0), at(4, 0), at(10, 0)}, []int{1, 0, 2}},
		{"one of them is near, by y", []api.Rect{at(0, 0), at(0, 6), at(0, 10)}, []int{1, 0, 2}},
		{"all are alike", times(6, rc(1, 2, 3, 4)), []int{0, 1, 2, 3, 4, 5}},
		{"all have one centre", []api.Rect{rc(0, 0, 10, 10), rc(4, 4, 6, 6), at(5, 5), rc(0, 5, 10, 5)}, []int{0, 1, 2, 3}},
		{"by the sum of both differences", []api.Rect{at(-10, -10), at(10, 10), at(5, 5), at(8, 0), at(0, -9)}, []int{3, 4, 2, 0, 1}},
		{"without a sign", []api.Rect{at(-10, -10), at(10, 10), at(9, -9), at(-8, 8), at(-7, -7), at(6, 6)}, []int{5, 4, 3, 2, 0, 1}},
		// Twice the centre of all is 3, and those of the others are 0, 6, 3 and 2.
		{"a centre between two points", []api.Rect{at(0, 0), at(3, 0), rc(1, 0, 2, 0), at(1, 0)}, []int{2, 3, 0, 1}},
		// Twice the centre of all is -3.
		{"a centre between two points, below 0", []api.Rect{at(0, 0), at(-3, 0), rc(-2, 0, -1, 0), at(-1, 0)}, []int{2, 3, 0, 1}},
		// The middle of all their centres would be 1, that of their rectangle is 5.
		{"the centre of all's rectangle", []api.Rect{at(0, 0), at(1, 0), at(0, 0), at(10, 0), at(1, 0)}, []int{1, 4, 0, 2, 3}},
		{"all's rectangle begins far from 0", []api.Rect{at(100, 100), at(102, 100), at(101, 100)}, []int{2, 0, 1}},
		{"great ones reach farther than their centres", []api.Rect{rc(0, 0, 20, 2), at(1, 1), at(18, 1), rc(5, 0, 20, 2)}, []int{0, 3, 2, 1}},
		{"the corners of all", []api.Rect{at(m, m), at(-m, -m), at(m, -m), at(-m, m), at(0, 0)}, []int{4, 0, 1, 2, 3}},
		{"one end and the rest", []api.Rect{at(m, m), at(-m, -m), whole(), at(m-1, m), at(-m, -m+1), rc(m-1, m, m, m)}, []int{2, 3, 4, 5, 0, 1}},
		{"all at one end", []api.Rect{at(m, m), at(m-1, m), at(m, m-1), at(m-1, m-1)}, []int{0, 1, 2, 3}},
	} {
		t.Run(c.name, func(t *testing.T) {
			for many := range len(c.l) + 1 {
				want := c.all[len(c.all)-many:]
				wantFarthest(t, c.l, many, want)
				if got := slowFarthest(c.l, many, met{}); !slices.Equal(got, want) {
					t.Error(many, "the oracle has", got)
				}
			}
		})
	}
}

// P13.1, Farthest: 100 rectangles, of which most are as far as others.
func TestFarthestHundred(t *testing.T) {
	var line, alike []api.Rect
	var want []int
	for i := range int64(100) {
		line, alike = append(line, at(i, 0)), append(alike, whole())
	}
	for i := range 50 {
		want = append(want, 49-i, 50+i)
	}
	for many := range 101 {
		wantFarthest(t, line, many, want[100-many:])
		wantFarthest(t, alike, many, rising(100-many, 100))
	}
}

// P13.1, Farthest: all lists of up to four rectangles of two different sides, and of up to three of three ones.
func TestFarthestEveryList(t *testing.T) {
	for _, sides := range [][]int64{{0, 1}, {-m, m}} {
		for n := range 5 {
			everyList(everyRect(sides), n, func(l []api.Rect) { checkFarthest(t, l, met{}) })
		}
	}
	for n := range 3 {
		everyList(everyRect([]int64{-m, 0, m}), n, func(l []api.Rect) { checkFarthest(t, l, met{}) })
	}
	everyList(everyRect([]int64{0, 1, 3}), 3, func(l []api.Rect) { checkFarthest(t, l, met{}) })
}

// P13.1, Farthest: drawn rectangles of few different sides, at each many, against the oracle.
func TestFarthestDrawn(t *testing.T) {
	rnd := rand.New(rand.NewSource(135))
	seen := met{}
	for range 4000 {
		checkFarthest(t, draw(rnd, 1+rnd.Intn(10), drawSides(rnd)), seen)
	}
	enough(t, seen, 1000, "alike ones are told", "one of alike ones is told")
	for range 20 {
		n := 50 + rnd.Intn(51)
		l := draw(rnd, n, drawSides(rnd))
		for _, many := range []int{1, 1 + rnd.Intn(n), n} {
			wantFarthest(t, l, many, slowFarthest(l, many, met{}))
		}
	}
}
