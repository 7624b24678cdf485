package own_test

import (
	"math/rand"
	"slices"
	"testing"

	"plover/api"
	"plover/own"
)

// some are rectangles that may be: points and lines, within cells and across their edges, at the bounds, the whole, drawn ones of any size.
func some(rnd *rand.Rand) []api.Rect {
	l := append(rightRects(), rc(-1, -1, 0, 0), rc(m-1, m-1, m, m), rc(1<<24-1, 5, 1<<24, 5), rc(7, -m, 7, m), rc(-m, -1, m, -1))
	for range 60 {
		x, y := rnd.Int63n(2*m+1)-m, rnd.Int63n(2*m+1)-m
		l = append(l, rc(x, y, min(m, x+rnd.Int63n(int64(1)<<rnd.Intn(32))), min(m, y+rnd.Int63n(int64(1)<<rnd.Intn(32)))))
	}
	return l
}

// pointsIn are a rectangle's corners, those next to each cell's edge in it, as far as it goes on, and drawn ones.
func pointsIn(rnd *rand.Rand, s int, r api.Rect) []api.Point {
	l := []api.Point{pt(r.X1, r.Y1), pt(r.X1, r.Y2), pt(r.X2, r.Y1), pt(r.X2, r.Y2)}
	within := func(from, to int64) int64 {
		n := from + rnd.Int63n(to-from+1)
		if edge := n >> s << s; rnd.Intn(2) == 0 {
			n = max(from, min(to, edge-rnd.Int63n(2)))
		}
		return n
	}
	for range 12 {
		l = append(l, pt(within(r.X1, r.X2), within(r.Y1, r.Y2)))
	}
	return l
}

// allOf are the owners of a rectangle that may be.
func allOf(t *testing.T, s, brokers int, r api.Rect) []int {
	t.Helper()
	l, err := own.All(s, brokers, r)
	if err != nil {
		t.Fatal("shift", s, brokers, "brokers,", r, err)
	}
	return l
}

// P18.2: an owner is one of the brokers, and that of each point in a rectangle is among All.
func TestPointsOwnerIsAmongAll(t *testing.T) {
	rnd := rand.New(rand.NewSource(182))
	several := 0
	for _, s := range shifts() {
		for _, r := range some(rnd) {
			for _, brokers := range []int{1, 2, 64, 1 + rnd.Intn(64), 1 + rnd.Intn(64)} {
				all := allOf(t, s, brokers, r)
				for _, p := range pointsIn(rnd, s, r) {
					n, err := own.Of(s, brokers, p)
					if err != nil || n < 0 || n >= brokers || !slices.Contains(all, n) {
						t.Fatal("shift", s, brokers, "brokers,", p, "is of", n, err, "all of", r, "are", all)
					}
				}
				if len(all) > 1 {
					several++
				}
			}
		}
	}
	if several < 300 {
		t.Error("only", several, "rectangles of several brokers")
	}
}

// P18.1, P18.2: All are brokers, rising, each once, at least one.
func TestAllRise(t *testing.T) {
	rnd := rand.New(rand.NewSource(183))
	for _, s := range shifts() {
		for _, r := range some(rnd) {
			for _, brokers := range []int{1, 2, 3, 63, 64, 1 + rnd.Intn(64)} {
				all := allOf(t, s, brokers, r)
				if len(all) == 0 || all[0] < 0 || all[len(all)-1] >= brokers {
					t.Fatal("shift", s, brokers, "brokers,", r, "is of", all)
				}
				for i := 1; i < len(all); i++ {
					if all[i-1] >= all[i] {
						t.Fatal("shift", s, brokers, "brokers,", r, "is of", all)
					}
				}
			}
		}
	}
}

// P18.1: All has no owner but those of the points of a rectangle: the first one in each of its cells is asked for.
func TestAllHasNoOther(t *testing.T) {
	for _, s := range []int{28, 29, 30, 31} {
		for brokers := 1; brokers <= 64; brokers++ {
			for _, r := range []api.Rect{whole(), rc(-1, -1, 0, 0), rc(-m, -5, m-1, 9), rc(-5, m, m, m), rc(m-1, 0, m, 1<<29), rc(-m, -m, m-1, m-1), rc(3, 4, 5, 6)} {
				var want []int
				for x := r.X1; x <= r.X2; x = next(s, x) {
					for y := r.Y1; y <= r.Y2; y = next(s, y) {
						n, err := own.Of(s, brokers, pt(x, y))
						if err != nil {
							t.Fatal("shift", s, brokers, "brokers,", x, y, err)
						}
						want = append(want, n)
					}
				}
				slices.Sort(want)
				if got := allOf(t, s, brokers, r); !slices.Equal(got, slices.Compact(want)) {
					t.Fatal("shift", s, brokers, "brokers,", r, "is of", got, "not", want)
				}
			}
		}
	}
}

// next is where the cell behind that of a coordinate begins.
func next(s int, n int64) int64 { return ((n+m)>>s+1)<<s - m }
