package cover_test

import (
	"math"
	"math/rand"
	"slices"
	"testing"

	"plover/api"
	"plover/cover"
	"plover/morton"
	"plover/rect"
)

const m = api.MaxCoord

// pt is a point.
func pt(x, y int64) api.Point { return api.Point{X: x, Y: y} }

// rc is a rectangle.
func rc(x1, y1, x2, y2 int64) api.Rect { return api.Rect{X1: x1, Y1: y1, X2: x2, Y2: y2} }

// shifts are all shifts that may be.
func shifts() []int { return []int{24, 25, 26, 27, 28, 29, 30, 31} }

// wrongShifts are shifts that may not be: just beside, far beyond, and what would wrap round.
func wrongShifts() []int {
	return []int{math.MinInt, -1 << 32, -64, -31, -24, -1, 0, 1, 23, 32, 33, 63, 64, 65, 256 + 30, 1<<32 + 30, math.MaxInt}
}

// beyond are coordinates that may not be, the outermost numbers among them.
func beyond() []int64 {
	return []int64{math.MinInt64, math.MinInt64 + 1, -3 * m, -2 * m, -m - 1, m + 1, 2 * m, 3 * m, math.MaxInt64 - m, math.MaxInt64}
}

// wrongRects are rectangles that may not be: sides out of order, by x, by y, or by both, within a cell and far
// apart; corners out of range; and both at once.
func wrongRects() []api.Rect {
	l := []api.Rect{
		rc(1, 0, 0, 0), rc(0, 1, 0, 0), rc(1, 1, 0, 0), rc(9, 3, 8, 4), rc(3, 9, 4, 8),
		rc(0, 0, -1, 0), rc(0, 0, 0, -1), rc(m, 0, m-1, 0), rc(0, m, 0, m-1), rc(-m+1, 0, -m, 0), rc(0, -m+1, 0, -m),
		rc(m, -m, -m, m), rc(-m, m, m, -m), rc(m, m, -m, -m),
		rc(m+1, m+1, -m-1, -m-1), rc(m+2, 0, m+1, 0), rc(0, m+2, 0, m+1), rc(m+1, 0, m, 0), rc(0, -m, 0, -m-1),
		rc(math.MaxInt64, math.MaxInt64, math.MinInt64, math.MinInt64),
		rc(math.MinInt64, math.MinInt64, math.MaxInt64, math.MaxInt64),
	}
	for _, n := range beyond() {
		l = append(l, rc(n, 0, 0, 0), rc(0, n, 0, 0), rc(0, 0, n, 0), rc(0, 0, 0, n), rc(n, n, n, n))
		l = append(l, rc(-m, -m, n, n), rc(n, n, m, m), rc(n, -m, n, m), rc(-m, n, m, n))
		l = append(l, rc(n, 1, 0, 0), rc(1, n, 0, 0), rc(1, 0, 0, n), rc(0, 1, n, 0), rc(m, m, n, n), rc(n, n, -m, -m))
	}
	return l
}

// cell is a cell: its number, and all its points.
type cell struct {
	code uint64
	box  api.Rect
}

// grid are all cells of a shift, their numbers rising, worked out from the words of layer 4 alone.
func grid(s int) []cell {
	var l []cell
	size := int64(1) << s
	for x := int64(-m); x <= m; x += size {
		for y := int64(-m); y <= m; y += size {
			box := rc(x, y, min(x+size-1, m), min(y+size-1, m))
			l = append(l, cell{slowCode((x+m)/size, (y+m)/size), box})
		}
	}
	slices.SortFunc(l, func(a, b cell) int { return int(a.code) - int(b.code) })
	return l
}

// slowCode lays the bits of a column and a row one by one.
func slowCode(column, row int64) uint64 {
	var code uint64
	for i := range 8 {
		code += uint64(column>>i%2) << (2 * i)
		code += uint64(row>>i%2) << (2*i + 1)
	}
	return code
}

// slowCover are the cells that have a point of a rectangle: each one is looked at.
func slowCover(cells []cell, r api.Rect) []cell {
	var l []cell
	for _, c := range cells {
		if c.box.X1 <= r.X2 && r.X1 <= c.box.X2 && c.box.Y1 <= r.Y2 && r.Y1 <= c.box.Y2 {
			l = append(l, c)
		}
	}
	return l
}

// numbers are the numbers of cells.
func numbers(cells []cell) []uint64 {
	var l []uint64
	for _, c := range cells {
		l = append(l, c.code)
	}
	return l
}

// hull is the least rectangle of some cells.
func hull(cells []cell) api.Rect {
	r := cells[0].box
	for _, c := range cells {
		r = rc(min(r.X1, c.box.X1), min(r.Y1, c.box.Y1), max(r.X2, c.box.X2), max(r.Y2, c.box.Y2))
	}
	return r
}

// marks are coordinates at both ends of cells: of the first one, of those in the middle, of the last ones.
func marks(s int) []int64 {
	size := int64(1) << s
	var l []int64
	for _, n := range []int64{-m, -m + size - 1, -m + size, -size, -1, 0, size - 1, size, m - 1, m} {
		if -m <= n && n <= m {
			l = append(l, n)
		}
	}
	slices.Sort(l)
	return slices.Compact(l)
}

// rects are all rectangles with sides in order, their coordinates of the list: lines and single points too.
func rects(ns []int64) []api.Rect {
	var l []api.Rect
	for i, x1 := range ns {
		for _, x2 := range ns[i:] {
			for j, y1 := range ns {
				for _, y2 := range ns[j:] {
					l = append(l, rc(x1, y1, x2, y2))
				}
			}
		}
	}
	return l
}

// randomRect has sides of any size, from a single point's to all coordinates.
func randomRect(rnd *rand.Rand) api.Rect {
	x1, x2 := randomSpan(rnd)
	y1, y2 := randomSpan(rnd)
	return rc(x1, y1, x2, y2)
}

// randomSpan are two coordinates in order.
func randomSpan(rnd *rand.Rand) (int64, int64) {
	first := rnd.Int63n(2*m+1) - m
	return first, min(m, first+rnd.Int63n(int64(1)<<rnd.Intn(32)))
}

// some are rectangles at the marks of a shift, and random ones.
func some(s int) []api.Rect {
	l := rects(marks(s))
	rnd := rand.New(rand.NewSource(int64(s)))
	for range 300 {
		l = append(l, randomRect(rnd))
	}
	return l
}

// cellsOf are a cover's numbers, of a rectangle that may be.
func cellsOf(t *testing.T, s int, r api.Rect) []uint64 {
	t.Helper()
	l, err := cover.Cells(s, r)
	if err != nil {
		t.Fatal("shift", s, r, "cells", l, err)
	}
	return l
}

// boxOf is a cover's box, of a rectangle that may be.
func boxOf(t *testing.T, s int, r api.Rect) api.Rect {
	t.Helper()
	box, err := cover.Box(s, r)
	if err != nil {
		t.Fatal("shift", s, r, "box", box, err)
	}
	return box
}

// P5.1, Cells: ordinary rectangles, single points and lines, both sides of a cell's edge, the last column and row.
func TestCells(t *testing.T) {
	for _, c := range []struct {
		s    int
		r    api.Rect
		want []uint64
	}{
		{30, rc(-m, -m, m, m), []uint64{0, 1, 2, 3, 4, 6, 8, 9, 12}},
		{31, rc(-m, -m, m, m), []uint64{0, 1, 2, 3}},
		{29, rc(-1, -1, 0, 0), []uint64{3, 6, 9, 12}},
		{29, rc(-m, 0, m, 0), []uint64{8, 9, 12, 13, 24}},
		{29, rc(0, -m, 0, m), []uint64{4, 6, 12, 14, 36}},
		{31, rc(0, 0, 0, 0), []uint64{0}},
		{31, rc(-m, -m, m-1, m-1), []uint64{0}},
		{31, rc(m-1, m-1, m, m), []uint64{0, 1, 2, 3}},
		{31, rc(m, -m, m, m-1), []uint64{1}},
		{31, rc(-m, m, m-1, m), []uint64{2}},
		{31, rc(m, m, m, m), []uint64{3}},
		{30, rc(0, -m, m-1, -1), []uint64{1}},
		{30, rc(-1, -m, m-1, -1), []uint64{0, 1}},
		{30, rc(0, -m, m, -1), []uint64{1, 4}},
		{30, rc(0, -m, m-1, 0), []uint64{1, 3}},
		{24, rc(-m, -m, -m, -m), []uint64{0}},
		{24, rc(-m, -m, -m+1<<24-1, -m+1<<24-1), []uint64{0}},
		{24, rc(-m, -m, -m+1<<24, -m+1<<24-1), []uint64{0, 1}},
		{24, rc(-m, -m, -m+1<<24-1, -m+1<<24), []uint64{0, 2}},
		{24, rc(-m+1<<24, -m, -m+3<<24, -m+1<<24), []uint64{1, 3, 4, 5, 6, 7}},
		{24, rc(m, m, m, m), []uint64{3 << 14}},
		{24, rc(m, -m, m, -m), []uint64{1 << 14}},
		{24, rc(-m, m, -m, m), []uint64{2 << 14}},
		{24, rc(m-1, m-1, m-1, m-1), []uint64{1<<14 - 1}},
		{24, rc(m-1, m-1, m, m), []uint64{1<<14 - 1, 1<<14 + 0x2aaa, 2<<14 + 0x1555, 3 << 14}},
	} {
		if got, err := cover.Cells(c.s, c.r); err != nil || !slices.Equal(got, c.want) {
			t.Error("shift", c.s, c.r, "cells", got, err)
		}
	}
}

// P5.1, Cells: the rectangle of all coordinates lies in all cells, at each shift.
func TestCellsOfAll(t *testing.T) {
	for s, want := range map[int]int{24: 129 * 129, 25: 65 * 65, 26: 33 * 33, 27: 17 * 17, 28: 9 * 9, 29: 5 * 5, 30: 3 * 3, 31: 2 * 2} {
		l := cellsOf(t, s, rc(-m, -m, m, m))
		if len(l) != want {
			t.Error("shift", s, "has", len(l), "cells, not", want)
		}
		if !slices.Equal(l, numbers(grid(s))) {
			t.Error("shift", s, "has other cells")
		}
	}
}

// P5.1, Cells: just the cells that have a point of it, at each cell's ends and at random ones.
func TestCellsHaveAPoint(t *testing.T) {
	for _, s := range shifts() {
		all := grid(s)
		for _, r := range some(s) {
			if got, want := cellsOf(t, s, r), numbers(slowCover(all, r)); !slices.Equal(got, want) {
				t.Fatal("shift", s, r, "cells", got, "not", want)
			}
		}
	}
}

// P5.1, Cells: the numbers rise, none is told twice.
func TestCellsRise(t *testing.T) {
	for _, s := range shifts() {
		for _, r := range some(s) {
			l := cellsOf(t, s, r)
			for i := 1; i < len(l); i++ {
				if l[i-1] >= l[i] {
					t.Fatal("shift", s, r, "number", l[i], "behind", l[i-1])
				}
			}
		}
	}
}

// P5.1, Box: ordinary rectangles, single points, both sides of a cell's edge, the last column and row.
func TestBox(t *testing.T) {
	for _, c := range []struct {
		s       int
		r, want api.Rect
	}{
		{29, rc(-1, 5, 0, 6), rc(-1<<29, 0, 1<<29-1, 1<<29-1)},
		{29, rc(5, -1, 6, 0), rc(0, -1<<29, 1<<29-1, 1<<29-1)},
		{24, rc(1, 2, 3, 4), rc(0, 0, 1<<24-1, 1<<24-1)},
		{24, rc(-1, -1, -1, -1), rc(-1<<24, -1<<24, -1, -1)},
		{24, rc(1<<24-1, 0, 1<<24, 0), rc(0, 0, 2<<24-1, 1<<24-1)},
		{24, rc(0, 1<<24, 5<<24, 3<<24-1), rc(0, 1<<24, 6<<24-1, 3<<24-1)},
		{24, rc(-m, -m, -m, -m), rc(-m, -m, -m+1<<24-1, -m+1<<24-1)},
		{24, rc(m, m, m, m), rc(m, m, m, m)},
		{24, rc(m-1, m-1, m-1, m-1), rc(m-1<<24, m-1<<24, m-1, m-1)},
		{24, rc(m-1, 0, m, 0), rc(m-1<<24, 0, m, 1<<24-1)},
		{24, rc(0, m-1, 0, m), rc(0, m-1<<24, 1<<24-1, m)},
		{30, rc(m, -5, m, -5), rc(m, -m, m, -1)},
		{30, rc(5, m, 5, m), rc(0, m, m-1, m)},
		{31, rc(0, 0, 0, 0), rc(-m, -m, m-1, m-1)},
		{31, rc(m, 0, m, 0), rc(m, -m, m, m-1)},
		{31, rc(0, m, 0, m), rc(-m, m, m-1, m)},
		{31, rc(m, m, m, m), rc(m, m, m, m)},
		{31, rc(m-1, m-1, m, m), rc(-m, -m, m, m)},
	} {
		if got, err := cover.Box(c.s, c.r); err != nil || got != c.want {
			t.Error("shift", c.s, c.r, "box", got, err)
		}
	}
}

// P5.1, Box: of the rectangle of all coordinates it is that one, at each shift.
func TestBoxOfAll(t *testing.T) {
	for _, s := range shifts() {
		if got := boxOf(t, s, rc(-m, -m, m, m)); got != rc(-m, -m, m, m) {
			t.Error("shift", s, "box", got)
		}
	}
}

// P5.1, Box: the least rectangle of all cells that have a point of it.
func TestBoxIsTheHull(t *testing.T) {
	for _, s := range shifts() {
		all := grid(s)
		for _, r := range some(s) {
			if got, want := boxOf(t, s, r), hull(slowCover(all, r)); got != want {
				t.Fatal("shift", s, r, "box", got, "not", want)
			}
		}
	}
}

// P5.1, Same: whichever is told first; each side counts by itself.
func TestSame(t *testing.T) {
	for _, c := range []struct {
		s    int
		a, b api.Rect
		want bool
	}{
		{29, rc(1, 1, 2, 2), rc(0, 0, 9, 9), true},
		{29, rc(1, 1, 2, 2), rc(-1, 0, 9, 9), false},
		{29, rc(1, 1, 2, 2), rc(0, -1, 9, 9), false},
		{29, rc(1, 1, 2, 2), rc(0, 0, 1<<29, 9), false},
		{29, rc(1, 1, 2, 2), rc(0, 0, 9, 1<<29), false},
		{29, rc(0, 0, 0, 0), rc(0, 0, 1<<29-1, 1<<29-1), true},
		{29, rc(-1, -1, 0, 0), rc(-1<<29, -1<<29, 1<<29-1, 1<<29-1), true},
		{29, rc(-1, -1, 0, 0), rc(-1<<29-1, -1<<29, 1<<29-1, 1<<29-1), false},
		// Of one box's size, but elsewhere; of as many cells, but otherwise.
		{24, rc(0, 0, 5, 5), rc(1<<24, 0, 1<<24+5, 5), false},
		{24, rc(0, 0, 1<<24, 5), rc(0, 0, 5, 1<<24), false},
		// The same columns and rows, but told the other way round.
		{24, rc(0, 1<<24, 0, 1<<24), rc(1<<24, 0, 1<<24, 0), false},
		{30, rc(-m, -m, m, m), rc(-1, -1, m, m), true},
		{30, rc(-m, -m, m, m), rc(-1, -1, m-1, m), false},
		{30, rc(-m, -m, m, m), rc(-1, -1, m, m-1), false},
		{31, rc(m, m, m, m), rc(m-1, m, m, m), false},
		{31, rc(m, m, m, m), rc(m, m-1, m, m), false},
		{31, rc(-m, -m, -m, -m), rc(m-1, m-1, m-1, m-1), true},
		{24, rc(-m, -m, -m, -m), rc(m-1, m-1, m-1, m-1), false},
		{24, rc(m, m, m, m), rc(m, m, m, m), true},
	} {
		if got := cover.Same(c.s, c.a, c.b); got != c.want {
			t.Error("shift", c.s, c.a, c.b, "same", got)
		}
		if got := cover.Same(c.s, c.b, c.a); got != c.want {
			t.Error("shift", c.s, c.b, c.a, "same", got)
		}
	}
}

// P5.1, Same: just if all cells are the same ones.
func TestSameIsSameCells(t *testing.T) {
	for _, s := range shifts() {
		all, l := grid(s), some(s)
		rnd := rand.New(rand.NewSource(int64(s)))
		for range 150 {
			a := l[rnd.Intn(len(l))]
			cells := numbers(slowCover(all, a))
			for _, b := range append(nudged(s, a), a, l[rnd.Intn(len(l))]) {
				if got, want := cover.Same(s, a, b), slices.Equal(cells, numbers(slowCover(all, b))); got != want {
					t.Fatal("shift", s, a, b, "same", got)
				}
			}
		}
	}
}

// nudged are rectangles with one side moved a little, or by half a cell, as far as they may be.
func nudged(s int, r api.Rect) []api.Rect {
	var l []api.Rect
	for _, d := range []int64{-1 << (s - 1), -1, 1, 1 << (s - 1)} {
		for _, n := range []api.Rect{rc(d, 0, 0, 0), rc(0, d, 0, 0), rc(0, 0, d, 0), rc(0, 0, 0, d), rc(d, d, d, d)} {
			moved := rc(r.X1+n.X1, r.Y1+n.Y1, r.X2+n.X2, r.Y2+n.Y2)
			if rect.May(moved) {
				l = append(l, moved)
			}
		}
	}
	return l
}

// wantRefused fails if Cells or Box isn't refused, by ErrArg itself, with zeros (R3).
func wantRefused(t *testing.T, s int, r api.Rect) {
	t.Helper()
	if l, err := cover.Cells(s, r); err != api.ErrArg || len(l) != 0 {
		t.Error("shift", s, r, "cells", l, err)
	}
	if box, err := cover.Box(s, r); err != api.ErrArg || box != (api.Rect{}) {
		t.Error("shift", s, r, "box", box, err)
	}
}

// rightRects are some rectangles that may be.
func rightRects() []api.Rect {
	return []api.Rect{rc(0, 0, 0, 0), rc(-m, -m, m, m), rc(m, m, m, m), rc(-m, -m, -m, -m), rc(-5, -9, 3, 7)}
}

// P5.1, Cells and Box: ErrArg of wrong shifts, of wrong rectangles, and of both.
func TestWrongInputs(t *testing.T) {
	for _, s := range wrongShifts() {
		for _, r := range append(rightRects(), wrongRects()...) {
			wantRefused(t, s, r)
		}
	}
	for _, s := range shifts() {
		for _, r := range wrongRects() {
			wantRefused(t, s, r)
		}
	}
}

// P5.1, Same: false, if the first one, the second one or both may not be, even if they are one.
func TestSameWrongRects(t *testing.T) {
	for _, s := range shifts() {
		for _, wrong := range wrongRects() {
			for _, r := range rightRects() {
				if cover.Same(s, wrong, r) || cover.Same(s, r, wrong) {
					t.Error("shift", s, wrong, r, "same")
				}
			}
			for _, other := range wrongRects() {
				if cover.Same(s, wrong, other) {
					t.Error("shift", s, wrong, other, "same")
				}
			}
		}
	}
}

// P5.1, Same: false of a shift that may not be, even if the rectangles are one.
func TestSameWrongShifts(t *testing.T) {
	for _, s := range wrongShifts() {
		l := append(rightRects(), wrongRects()...)
		for _, a := range l {
			for _, b := range l {
				if cover.Same(s, a, b) {
					t.Error("shift", s, a, b, "same")
				}
			}
		}
	}
}

// P5.2: a rectangle lies in its cover's box; that box's cover, and so its box, is the same.
func TestBoxHasTheSameCover(t *testing.T) {
	for _, s := range shifts() {
		for _, r := range some(s) {
			box := boxOf(t, s, r)
			if !rect.May(box) || !rect.Holds(box, r) {
				t.Fatal("shift", s, r, "isn't in", box)
			}
			if !cover.Same(s, r, box) || !slices.Equal(cellsOf(t, s, r), cellsOf(t, s, box)) {
				t.Fatal("shift", s, r, "has another cover than", box)
			}
			if again := boxOf(t, s, box); again != box {
				t.Fatal("shift", s, box, "has the box", again)
			}
		}
	}
}

// pointsIn are a rectangle's corners, and random points of it.
func pointsIn(rnd *rand.Rand, r api.Rect) []api.Point {
	l := []api.Point{pt(r.X1, r.Y1), pt(r.X1, r.Y2), pt(r.X2, r.Y1), pt(r.X2, r.Y2)}
	for range 10 {
		l = append(l, pt(r.X1+rnd.Int63n(r.X2-r.X1+1), r.Y1+rnd.Int63n(r.Y2-r.Y1+1)))
	}
	return l
}

// codeOf is the number of a point's cell, by layer 4.
func codeOf(t *testing.T, s int, p api.Point) uint64 {
	t.Helper()
	column, row, err := morton.Cell(s, p)
	if err != nil {
		t.Fatal("shift", s, p, err)
	}
	code, err := morton.Code(column, row)
	if err != nil {
		t.Fatal("shift", s, p, err)
	}
	return code
}

// P5.2: each point's cell is in the cover of each rectangle that it is in.
func TestPointsCellIsInTheCover(t *testing.T) {
	rnd := rand.New(rand.NewSource(9))
	for _, s := range shifts() {
		for _, r := range some(s) {
			l := cellsOf(t, s, r)
			for _, p := range pointsIn(rnd, r) {
				if code := codeOf(t, s, p); !slices.Contains(l, code) {
					t.Fatal("shift", s, r, "has", p, "but not its cell", code)
				}
			}
		}
	}
}

// R2: what is answered is new memory each time.
func TestCellsAreNew(t *testing.T) {
	r := rc(-m, -m, m, m)
	want := []uint64{0, 1, 2, 3, 4, 6, 8, 9, 12}
	first := cellsOf(t, 30, r)
	second := cellsOf(t, 30, r)
	clear(first)
	if !slices.Equal(second, want) || !slices.Equal(cellsOf(t, 30, r), want) {
		t.Error("changed to", second)
	}
}
