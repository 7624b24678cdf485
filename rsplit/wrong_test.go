package rsplit_test

import (
	"math"
	"slices"
	"testing"

	"plover/api"
	"plover/rsplit"
)

// wrongRects are rectangles that may not be: a coordinate beyond, or sides crossed.
func wrongRects() []api.Rect {
	l := []api.Rect{
		rc(1, 0, 0, 0), rc(0, 1, 0, 0), rc(1, 1, 0, 0), rc(m, -m, -m, m), rc(-m, m, m, -m), rc(m, m, -m, -m),
		rc(m, 0, m-1, 0), rc(0, -m+1, 0, -m), rc(math.MinInt64, math.MinInt64, math.MaxInt64, math.MaxInt64),
	}
	for _, n := range []int64{math.MinInt64, math.MinInt64 + 1, -1 << 32, -2 * m, -m - 1, m + 1, 2 * m, 1 << 32, math.MaxInt64} {
		l = append(l, rc(n, 0, 0, 0), rc(0, n, 0, 0), rc(0, 0, n, 0), rc(0, 0, 0, n), rc(n, n, n, n))
		l = append(l, rc(-m, -m, n, n), rc(n, n, m, m), rc(n, -m, n, m), rc(-m, n, m, n))
	}
	return l
}

// right are n rectangles that may be.
func right(n int) []api.Rect {
	var l []api.Rect
	for i := range int64(n) {
		l = append(l, rc(i%7, i%5, i%7+i%3, i%5+2))
	}
	return l
}

// noSplit fails if rectangles are split.
func noSplit(t *testing.T, l []api.Rect, min int) {
	t.Helper()
	if a, b, err := rsplit.Split(l, min); len(a) != 0 || len(b) != 0 || err != api.ErrArg {
		t.Errorf("%d rectangles, min %d: %v, %v, %v", len(l), min, a, b, err)
	}
}

// noChoose fails if one is chosen.
func noChoose(t *testing.T, l []api.Rect, r api.Rect) {
	t.Helper()
	for _, leaves := range []bool{true, false} {
		if n, err := rsplit.Choose(l, r, leaves); n != 0 || err != api.ErrArg {
			t.Errorf("%d rectangles, %v, leaves %v: %v, %v", len(l), r, leaves, n, err)
		}
	}
}

// noFarthest fails if some are told.
func noFarthest(t *testing.T, l []api.Rect, many int) {
	t.Helper()
	if got, err := rsplit.Farthest(l, many); len(got) != 0 || err != api.ErrArg {
		t.Errorf("%d rectangles, %d: %v, %v", len(l), many, got, err)
	}
}

// P13.1: ErrArg, if a rectangle may not be, wherever it stands, and whatever else is asked.
func TestWrongRects(t *testing.T) {
	for _, n := range []int{1, 2, 5, 100} {
		for _, wrong := range wrongRects() {
			for _, place := range []int{0, n / 2, n - 1} {
				l := right(n)
				l[place] = wrong
				for _, k := range []int{0, 1, n / 2, n, n + 1, -1} {
					noSplit(t, l, k)
					noFarthest(t, l, k)
				}
				noChoose(t, l, at(0, 0))
				noChoose(t, l, wrong)
			}
			noChoose(t, right(n), wrong)
		}
	}
	for _, wrong := range wrongRects() {
		noChoose(t, nil, wrong)
	}
}

// P13.1: ErrArg, if there are more than 100; 100 may be.
func TestMoreThanHundred(t *testing.T) {
	for _, n := range []int{101, 102, 200, 356, 1000, 1 << 16, 1 << 20} {
		l := right(n)
		for _, k := range []int{0, 1, 2, 50, 100, n / 2, n} {
			noSplit(t, l, k)
			noFarthest(t, l, k)
		}
		noChoose(t, l, at(0, 0))
	}
	for _, n := range []int{99, 100} {
		l := right(n)
		if a, b, err := rsplit.Split(l, 1); len(a)+len(b) != n || err != nil {
			t.Error(n, a, b, err)
		}
		if got, err := rsplit.Farthest(l, n); len(got) != n || err != nil {
			t.Error(n, got, err)
		}
		for _, leaves := range []bool{true, false} {
			if _, err := rsplit.Choose(l, at(0, 0), leaves); err != nil {
				t.Error(n, err)
			}
		}
	}
}

// greatInts are ints that are too great, or too small, for all that is asked for, some of which wrap round when they are doubled.
func greatInts() []int {
	l := []int{math.MaxInt, math.MaxInt - 1, math.MaxInt/2 + 1, math.MaxInt / 2, math.MaxInt/2 + 2, 1 << 32, 1<<32 + 1, 1 << 31}
	return append(l, math.MinInt, math.MinInt+1, math.MinInt/2, math.MinInt/2+1, math.MinInt/2-1, -1<<32, -1<<31, -100, -2, -1)
}

// P13.1, Split: ErrArg, if min is below 1, or there are fewer than twice min; with none there always are.
func TestWrongMin(t *testing.T) {
	for _, l := range [][]api.Rect{nil, {}, right(1), right(2), right(3), right(4), right(5), right(99), right(100)} {
		for _, min := range append(greatInts(), 0, len(l)/2+1, len(l)/2+2, len(l), len(l)+1) {
			// One alone has no half, but that is a min that may not be, too.
			if min < 1 || min > len(l)/2 {
				noSplit(t, l, min)
			}
		}
		for min := 1; 2*min <= len(l); min++ {
			if a, b, err := rsplit.Split(l, min); err != nil || len(a)+len(b) != len(l) {
				t.Error(len(l), min, a, b, err)
			}
		}
	}
}

// P13.1, Choose: ErrArg, if there is none.
func TestChooseOfNone(t *testing.T) {
	for _, r := range []api.Rect{{}, at(0, 0), whole(), rc(1, 2, 3, 4)} {
		noChoose(t, nil, r)
		noChoose(t, []api.Rect{}, r)
		noChoose(t, right(5)[:0], r)
	}
}

// P13.1, Farthest: ErrArg, if many is below 0, or above how many there are.
func TestWrongMany(t *testing.T) {
	for _, n := range []int{0, 1, 2, 5, 99, 100} {
		l := right(n)
		for _, many := range append(greatInts(), n+1, n+2, 2*n+1) {
			noFarthest(t, l, many)
		}
		for many := range n + 1 {
			if got, err := rsplit.Farthest(l, many); len(got) != many || err != nil {
				t.Error(n, many, got, err)
			}
		}
	}
	if got, err := rsplit.Farthest([]api.Rect{}, 0); len(got) != 0 || err != nil {
		t.Error(got, err)
	}
}

// P1: no call panics: a fuzzer's bytes are rectangles that may be, at times one that may not be, and numbers.
func FuzzAll(f *testing.F) {
	f.Add([]byte{0, 1, 2, 3, 4, 5, 6, 7, 8, 9, 10, 11}, 1, false)
	f.Add([]byte{0, 0, 1, 1, 0, 0, 1, 1, 0, 0, 3, 3, 2, 0, 0, 2, 255, 255, 1, 1}, 2, true)
	f.Add(slices.Repeat([]byte{0, 0, 7, 7}, 100), 50, true)
	f.Add(slices.Repeat([]byte{6, 6, 7, 7, 0, 7, 1, 0}, 51), math.MaxInt, false)
	f.Fuzz(func(t *testing.T, b []byte, n int, leaves bool) {
		sides := []int64{0, 1, 2, 5, -m, m, m - 1, -1}
		var l []api.Rect
		for ; len(b) >= 4; b = b[4:] {
			l = append(l, rc(sides[b[0]%8], sides[b[1]%8], sides[b[2]%8], sides[b[3]%8]))
			if r := &l[len(l)-1]; b[0] < 250 {
				*r = rc(min(r.X1, r.X2), min(r.Y1, r.Y2), max(r.X1, r.X2), max(r.Y1, r.Y2))
			}
		}
		wrong := len(l) > 100 || slices.ContainsFunc(l, func(r api.Rect) bool { return r.X1 > r.X2 || r.Y1 > r.Y2 })
		if wrong || n < 1 || n > len(l)/2 {
			noSplit(t, l, n)
		} else {
			a, b := slowSplit(l, n, met{})
			wantSplit(t, l, n, a, b)
		}
		if wrong || n < 0 || n > len(l) {
			noFarthest(t, l, n)
		} else {
			wantFarthest(t, l, n, slowFarthest(l, n, met{}))
		}
		if wrong || len(l) == 0 {
			noChoose(t, l, at(1, 1))
		} else {
			wantChoose(t, l, l[len(l)-1], leaves, slowChoose(l, l[len(l)-1], leaves, met{}))
			wantChoose(t, l, at(1, 1), leaves, slowChoose(l, at(1, 1), leaves, met{}))
		}
	})
}
