package own_test

import (
	"errors"
	"math"
	"slices"
	"testing"

	"plover/api"
	"plover/own"
)

const m = api.MaxCoord

// pt is a point.
func pt(x, y int64) api.Point { return api.Point{X: x, Y: y} }

// rc is a rectangle.
func rc(x1, y1, x2, y2 int64) api.Rect { return api.Rect{X1: x1, Y1: y1, X2: x2, Y2: y2} }

// whole is the widest rectangle that there is.
func whole() api.Rect { return rc(-m, -m, m, m) }

// shifts are all shifts that may be.
func shifts() []int { return []int{24, 25, 26, 27, 28, 29, 30, 31} }

// wrongShifts are shifts that may not be: just beside, far beyond, and what would wrap round.
func wrongShifts() []int {
	return []int{math.MinInt, -1 << 32, -64, -31, -24, -1, 0, 1, 23, 32, 33, 63, 64, 65, 256 + 30, 1<<32 + 30, math.MaxInt - 1, math.MaxInt}
}

// wrongBrokers are numbers of brokers that may not be: just beside, far beyond, and what would wrap round.
func wrongBrokers() []int {
	return []int{math.MinInt, math.MinInt + 1, -1 << 32, -65, -64, -2, -1, 0, 65, 66, 128, 256 + 1, 1<<16 + 64, 1<<32 + 1, 1<<62 + 3, math.MaxInt - 1, math.MaxInt}
}

// outermost are coordinates that may not be: just beside, far beyond, and the outermost numbers.
func outermost() []int64 {
	return []int64{math.MinInt64, math.MinInt64 + 1, math.MinInt64 + m, -3 * m, -2 * m, -m - 1, m + 1, 2 * m, 3 * m, 1<<32 + 5, math.MaxInt64 - m, math.MaxInt64}
}

// rightPoints are some points that may be.
func rightPoints() []api.Point {
	return []api.Point{pt(0, 0), pt(-m, -m), pt(m, -m), pt(-m, m), pt(m, m), pt(-1, 5), pt(m-1, -m+1)}
}

// wrongPoints are points that may not be, by x, by y, or by both.
func wrongPoints() []api.Point {
	var l []api.Point
	for _, n := range outermost() {
		l = append(l, pt(n, 0), pt(0, n), pt(n, m), pt(-m, n), pt(n, n), pt(n, math.MaxInt64), pt(math.MinInt64, n))
	}
	return l
}

// rightRects are some rectangles that may be.
func rightRects() []api.Rect {
	return []api.Rect{rc(0, 0, 0, 0), whole(), rc(m, m, m, m), rc(-m, -m, -m, -m), rc(-5, -9, 3, 7), rc(-m, m, m, m), rc(m, -m, m, m)}
}

// wrongRects are rectangles that may not be: sides turned about, by x, by y or by both; corners beyond; both at once.
func wrongRects() []api.Rect {
	l := []api.Rect{
		rc(1, 0, 0, 0), rc(0, 1, 0, 0), rc(1, 1, 0, 0), rc(9, 3, 8, 4), rc(3, 9, 4, 8), rc(0, 0, -1, 0), rc(0, 0, 0, -1),
		rc(m, 0, m-1, 0), rc(0, m, 0, m-1), rc(-m+1, 0, -m, 0), rc(0, -m+1, 0, -m),
		rc(m, -m, -m, m), rc(-m, m, m, -m), rc(m, m, -m, -m), rc(m+1, m+1, -m-1, -m-1), rc(m+2, 0, m+1, 0), rc(0, -m, 0, -m-1),
		rc(math.MinInt64, math.MinInt64, math.MaxInt64, math.MaxInt64), rc(math.MaxInt64, math.MaxInt64, math.MinInt64, math.MinInt64),
	}
	for _, n := range outermost() {
		l = append(l, rc(n, 0, 0, 0), rc(0, n, 0, 0), rc(0, 0, n, 0), rc(0, 0, 0, n), rc(n, n, n, n))
		l = append(l, rc(-m, -m, n, n), rc(n, n, m, m), rc(n, -m, n, m), rc(-m, n, m, n), rc(-m, -m, n, m), rc(-m, -m, m, n), rc(n, -m, m, m), rc(-m, n, m, m))
	}
	return l
}

// wantOwner fails if a point's cell isn't just that broker's.
func wantOwner(t *testing.T, s, brokers int, p api.Point, want int) {
	t.Helper()
	if got, err := own.Of(s, brokers, p); err != nil || got != want {
		t.Error("shift", s, brokers, "brokers,", p, "is of", got, err, "not", want)
	}
}

// wantOwners fails if a cover isn't just those brokers'.
func wantOwners(t *testing.T, s, brokers int, r api.Rect, want ...int) {
	t.Helper()
	if got, err := own.All(s, brokers, r); err != nil || !slices.Equal(got, want) {
		t.Error("shift", s, brokers, "brokers,", r, "is of", got, err, "not", want)
	}
}

// wantNoOwner fails if a point isn't refused by that error itself, with nothing beside it (R3).
func wantNoOwner(t *testing.T, s, brokers int, p api.Point, want api.Code) {
	t.Helper()
	if got, err := own.Of(s, brokers, p); err != want || !errors.Is(err, want) || got != 0 {
		t.Error("shift", s, brokers, "brokers,", p, "is of", got, err, "not", want)
	}
}

// wantNoOwners fails if a rectangle isn't refused by ErrArg itself, with nothing beside it (R3).
func wantNoOwners(t *testing.T, s, brokers int, r api.Rect) {
	t.Helper()
	if got, err := own.All(s, brokers, r); err != api.ErrArg || !errors.Is(err, api.ErrArg) || len(got) != 0 {
		t.Error("shift", s, brokers, "brokers,", r, "is of", got, err)
	}
}

// P18.1: the example: of one broker all is its own, at each shift.
func TestOneBroker(t *testing.T) {
	for _, s := range shifts() {
		for _, p := range rightPoints() {
			wantOwner(t, s, 1, p, 0)
		}
		for _, r := range rightRects() {
			wantOwners(t, s, 1, r, 0)
		}
	}
}

// P18.1, Of: the four cells of the greatest shift: the numbers 0 to 3, divided by 4.
func TestOfFourCells(t *testing.T) {
	for _, c := range []struct {
		brokers int
		want    [4]int
	}{
		{1, [4]int{0, 0, 0, 0}}, {2, [4]int{0, 0, 1, 1}}, {3, [4]int{0, 0, 1, 2}}, {4, [4]int{0, 1, 2, 3}},
		{5, [4]int{0, 1, 2, 3}}, {7, [4]int{0, 1, 3, 5}}, {63, [4]int{0, 15, 31, 47}}, {64, [4]int{0, 16, 32, 48}},
	} {
		for _, p := range []api.Point{pt(-m, -m), pt(0, 0), pt(m-1, m-1), pt(-m, m-1), pt(m-1, -m)} {
			wantOwner(t, 31, c.brokers, p, c.want[0])
		}
		for _, n := range []int64{-m, 0, m - 1} {
			wantOwner(t, 31, c.brokers, pt(m, n), c.want[1])
			wantOwner(t, 31, c.brokers, pt(n, m), c.want[2])
		}
		wantOwner(t, 31, c.brokers, pt(m, m), c.want[3])
	}
}

// P18.1, Of: the nine cells of shift 30: the numbers 0 to 12, some left out, divided by 13.
func TestOfNineCells(t *testing.T) {
	for brokers, want := range map[int][9]int{
		2:  {0, 0, 0, 0, 0, 0, 1, 1, 1},
		3:  {0, 0, 0, 0, 0, 1, 1, 2, 2},
		12: {0, 0, 3, 1, 2, 5, 7, 8, 11},
		13: {0, 1, 4, 2, 3, 6, 8, 9, 12},
		14: {0, 1, 4, 2, 3, 6, 8, 9, 12},
		64: {0, 4, 19, 9, 14, 29, 39, 44, 59},
	} {
		for i, y := range []int64{-m, 0, m} {
			for j, x := range []int64{-m, 0, m} {
				// The first and the last point of the cell.
				wantOwner(t, 30, brokers, pt(x, y), want[3*i+j])
				wantOwner(t, 30, brokers, pt(min(x+m-1, m), min(y+m-1, m)), want[3*i+j])
			}
		}
	}
}

// P18.1, Of: at the bounds, and on both sides of the edges between the quarters of the least cells.
func TestOfLeastCells(t *testing.T) {
	for _, c := range []struct {
		brokers int
		x, y    int64
		want    int
	}{
		{64, -m, -m, 0}, {64, -1, -1, 5}, {64, 0, -1, 8}, {64, -1, 0, 12}, {64, 0, 0, 15}, {64, m - 1, m - 1, 21},
		{64, m, -m, 21}, {64, m, m - 1, 35}, {64, -m, m, 42}, {64, m - 1, m, 49}, {64, m, m, 63},
		{63, -1, -1, 5}, {63, 0, 0, 15}, {63, m - 1, m - 1, 20}, {63, m, -m, 20}, {63, m, m - 1, 34}, {63, m - 1, m, 48}, {63, m, m, 62},
		{2, m - 1, m - 1, 0}, {2, m, -m, 0}, {2, m, m - 1, 1}, {2, -m, m, 1}, {2, m, m, 1},
		{3, m - 1, m - 1, 0}, {3, m, -m, 0}, {3, m, m - 1, 1}, {3, -m, m, 1}, {3, m - 1, m, 2}, {3, m, m, 2},
	} {
		wantOwner(t, 24, c.brokers, pt(c.x, c.y), c.want)
	}
	// 7 brokers have 49 numbers in sevens: a number that goes out evenly is the next one's.
	wantOwner(t, 29, 7, pt(0, -1), 0)
	wantOwner(t, 29, 7, pt(m-1, -1), 1)
	wantOwner(t, 29, 7, pt(m-1, 1<<29-1), 1)
	wantOwner(t, 29, 7, pt(0, m-1), 2)
}

// P18.1, Of: ErrArg, of shifts and of brokers that may not be, at points that may be or not.
func TestOfNone(t *testing.T) {
	l := append(rightPoints(), wrongPoints()...)
	for _, p := range l {
		for _, s := range wrongShifts() {
			for _, brokers := range append(wrongBrokers(), 1, 2, 3, 63, 64) {
				wantNoOwner(t, s, brokers, p, api.ErrArg)
			}
		}
		for _, s := range shifts() {
			for _, brokers := range wrongBrokers() {
				wantNoOwner(t, s, brokers, p, api.ErrArg)
			}
		}
	}
}

// P18.1, Of: ErrRange, of points that may not be, for all shifts and brokers that may be.
func TestOfNowhere(t *testing.T) {
	for _, p := range wrongPoints() {
		for _, s := range shifts() {
			for brokers := 1; brokers <= 64; brokers++ {
				wantNoOwner(t, s, brokers, p, api.ErrRange)
			}
		}
	}
}

// P18.1, All: a point, within a cell, across the edges of quarters and of their quarters, the last column and row, the whole.
func TestAll(t *testing.T) {
	const q = 1 << 29
	for _, c := range []struct {
		s, brokers int
		r          api.Rect
		want       []int
	}{
		{30, 3, rc(-1, 0, m, m), []int{0, 1, 2}},
		{30, 64, rc(0, 0, 1, 1), []int{14}},
		{24, 64, rc(-1, -1, -1, -1), []int{5}},
		{24, 64, rc(5, 6, 7, 8), []int{15}},
		{24, 64, rc(0, 0, 1<<24-1, 1<<24-1), []int{15}},
		{24, 64, rc(m, m, m, m), []int{63}},
		{24, 64, rc(-1, -1, 0, 0), []int{5, 8, 12, 15}},
		{24, 64, rc(-1, -1, 0, -1), []int{5, 8}},
		{24, 64, rc(-1, -1, -1, 0), []int{5, 12}},
		{24, 64, rc(-1, -m, 0, -m), []int{1, 5}},
		{24, 64, rc(-m, -1, -m, 0), []int{3, 10}},
		{24, 64, rc(q-1, q-1, q, q), []int{17, 18, 19}},
		{24, 64, rc(m-1, m-1, m, m), []int{21, 35, 49, 63}},
		{24, 64, rc(0, 0, m-1, m-1), []int{15, 16, 17, 18, 19, 20, 21}},
		{24, 64, rc(-m, -m, -1, -1), []int{0, 1, 2, 3, 4, 5}},
		{24, 64, rc(m, -m, m, m), []int{21, 22, 23, 24, 31, 32, 34, 35, 63}},
		{24, 64, rc(-m, m, m, m), []int{42, 43, 44, 47, 48, 49, 63}},
		{27, 10, rc(0, 0, m-1, m-1), []int{2, 3}},
		{27, 10, rc(m-1, m-1, m, m), []int{3, 5, 7, 9}},
		{27, 10, rc(m, -m, m, m), []int{3, 4, 5, 9}},
		{29, 7, rc(-1, -1, 0, 0), []int{0, 1}},
		{29, 7, rc(m, -m, m, m), []int{2, 3, 6}},
		{30, 64, rc(-1, -1, 0, 0), []int{0, 4, 9, 14}},
		{30, 64, rc(m, -m, m, m), []int{19, 29, 59}},
		{31, 64, rc(-m, -m, m-1, m-1), []int{0}},
		{31, 64, rc(m-1, m-1, m, m), []int{0, 16, 32, 48}},
		{31, 64, rc(m-1, m, m, m), []int{32, 48}},
	} {
		wantOwners(t, c.s, c.brokers, c.r, c.want...)
	}
}

// P18.1, All: the whole of what there is: with few brokers all of them, with many just those that have a cell.
func TestAllOfTheWhole(t *testing.T) {
	wantOwners(t, 24, 3, whole(), 0, 1, 2)
	wantOwners(t, 29, 7, whole(), 0, 1, 2, 3, 4, 5, 6)
	wantOwners(t, 29, 64, whole(), 0, 1, 2, 3, 5, 6, 7, 9, 10, 11, 13, 14, 15, 16, 18, 19, 20, 23, 31, 33, 41, 43, 47, 48, 62)
	wantOwners(t, 30, 13, whole(), 0, 1, 2, 3, 4, 6, 8, 9, 12)
	wantOwners(t, 30, 64, whole(), 0, 4, 9, 14, 19, 29, 39, 44, 59)
	wantOwners(t, 31, 4, whole(), 0, 1, 2, 3)
	wantOwners(t, 31, 5, whole(), 0, 1, 2, 3)
	wantOwners(t, 31, 64, whole(), 0, 16, 32, 48)
	for s := 24; s <= 27; s++ {
		wantOwners(t, s, 64, whole(), 0, 1, 2, 3, 4, 5, 6, 7, 8, 9, 10, 11, 12, 13, 14, 15, 16, 17, 18, 19, 20, 21, 22, 23, 24, 31, 32, 34, 35, 42, 43, 44, 47, 48, 49, 63)
	}
}

// P18.1, All: ErrArg, of shifts, of brokers, of rectangles that may not be, and of several of these.
func TestAllOfNone(t *testing.T) {
	for _, r := range append(rightRects(), wrongRects()...) {
		for _, s := range wrongShifts() {
			for _, brokers := range append(wrongBrokers(), 1, 2, 3, 63, 64) {
				wantNoOwners(t, s, brokers, r)
			}
		}
		for _, s := range shifts() {
			for _, brokers := range wrongBrokers() {
				wantNoOwners(t, s, brokers, r)
			}
		}
	}
	for _, r := range wrongRects() {
		for _, s := range shifts() {
			for brokers := 1; brokers <= 64; brokers++ {
				wantNoOwners(t, s, brokers, r)
			}
		}
	}
}
