package morton_test

import (
	"math"
	"math/big"
	"math/rand"
	"testing"

	"plover/api"
	"plover/morton"
	"plover/point"
	"plover/rect"
)

const (
	m       = api.MaxCoord
	maxCell = 1<<31 - 1
)

// pt is a point.
func pt(x, y int64) api.Point { return api.Point{X: x, Y: y} }

// shifts are all shifts that may be.
func shifts() []int { return []int{24, 25, 26, 27, 28, 29, 30, 31} }

// wrongShifts are shifts that may not be: just beside, far beyond, and what would wrap round.
func wrongShifts() []int {
	return []int{math.MinInt, -1 << 32, -64, -32, -31, -30, -24, -1, 0, 1, 22, 23, 32, 33, 63, 64, 65, 256 + 30, 1<<32 + 30, math.MaxInt}
}

// wrongPoints are points that may not be, by one coordinate or by both, the outermost numbers among them.
func wrongPoints() []api.Point {
	ns := []int64{math.MinInt64, math.MinInt64 + 1, -2 * m, -m - 1, m + 1, 2 * m, math.MaxInt64 - m, math.MaxInt64}
	var l []api.Point
	for _, x := range ns {
		l = append(l, pt(x, 0), pt(0, x), pt(m, x), pt(x, -m))
		for _, y := range ns {
			l = append(l, pt(x, y))
		}
	}
	return l
}

// P4.1, Side: so many, as the words tell, at each shift.
func TestSide(t *testing.T) {
	for s, want := range map[int]int{24: 129, 25: 65, 26: 33, 27: 17, 28: 9, 29: 5, 30: 3, 31: 2} {
		if got := morton.Side(s); got != want {
			t.Error("shift", s, "side", got)
		}
	}
}

// P4.1, Side: there are so many columns as there are such numbers.
func TestSideCountsColumns(t *testing.T) {
	for _, s := range shifts() {
		seen := map[int]int{}
		for x := int64(-m); x <= m; x += 1 << 23 {
			column, _, err := morton.Cell(s, pt(x, 0))
			if err != nil {
				t.Fatal(s, x, err)
			}
			seen[column]++
		}
		if len(seen) != morton.Side(s) {
			t.Error("shift", s, "has", len(seen), "columns, not", morton.Side(s))
		}
	}
}

// P4.1, Side: 0 of shifts that may not be.
func TestSideWrongShifts(t *testing.T) {
	for _, s := range wrongShifts() {
		if got := morton.Side(s); got != 0 {
			t.Error("shift", s, "side", got)
		}
	}
}

// P4.1, Cell: ordinary points, both sides of a cell's edge, and the edges of what may be.
func TestCell(t *testing.T) {
	for _, c := range []struct {
		s           int
		p           api.Point
		column, row int
	}{
		{24, pt(-m, -m), 0, 0},
		{24, pt(m, m), 128, 128},
		{24, pt(m, -m), 128, 0},
		{24, pt(-m, m), 0, 128},
		{24, pt(m-1, m-1), 127, 127},
		{24, pt(0, -1), 64, 63},
		{24, pt(-1, 0), 63, 64},
		{24, pt(-m+1<<24-1, -m+1<<24), 0, 1},
		{24, pt(-m+1<<24, -m+1<<24-1), 1, 0},
		{24, pt(1<<24, 3<<24), 65, 67},
		{27, pt(5, -5), 8, 7},
		{29, pt(1, 1<<29), 2, 3},
		{30, pt(m, -1), 2, 0},
		{30, pt(-1, m), 0, 2},
		{30, pt(0, m-1), 1, 1},
		{31, pt(-m, -m), 0, 0},
		{31, pt(0, 0), 0, 0},
		{31, pt(m-1, m-1), 0, 0},
		{31, pt(m, m-1), 1, 0},
		{31, pt(m-1, m), 0, 1},
		{31, pt(m, m), 1, 1},
	} {
		column, row, err := morton.Cell(c.s, c.p)
		if err != nil || column != c.column || row != c.row {
			t.Error("shift", c.s, c.p, "cell", column, row, err)
		}
	}
}

// slowPlace is the column of a coordinate, by division of numbers of any size.
func slowPlace(s int, n int64) int {
	sum := new(big.Int).Add(big.NewInt(n), big.NewInt(m))
	size := new(big.Int).Exp(big.NewInt(2), big.NewInt(int64(s)), nil)
	return int(new(big.Int).Quo(sum, size).Int64())
}

// P4.1, Cell: of random points, and of those at each cell's edges, just what division tells.
func TestCellIsDivision(t *testing.T) {
	rnd := rand.New(rand.NewSource(4))
	for _, s := range shifts() {
		ns := []int64{-m, -m + 1, -1, 0, 1, m - 1, m}
		for n := int64(-m) + 1<<s; n <= m; n += 1 << s {
			ns = append(ns, n-1, n)
		}
		for range 200 {
			ns = append(ns, rnd.Int63n(2*m+1)-m)
		}
		for _, x := range ns {
			y := ns[rnd.Intn(len(ns))]
			column, row, err := morton.Cell(s, pt(x, y))
			if err != nil || column != slowPlace(s, x) || row != slowPlace(s, y) {
				t.Fatal("shift", s, x, y, "cell", column, row, err)
			}
		}
	}
}

// wantCellError fails if a cell isn't refused, by the error itself, with zeros (R3).
func wantCellError(t *testing.T, s int, p api.Point, want api.Code) {
	t.Helper()
	if column, row, err := morton.Cell(s, p); err != want || column != 0 || row != 0 {
		t.Error("shift", s, p, "cell", column, row, err)
	}
}

// P4.1, Cell: ErrArg of wrong shifts, and of those first (R1); ErrRange of wrong points.
func TestCellWrongInputs(t *testing.T) {
	for _, s := range wrongShifts() {
		for _, p := range []api.Point{pt(0, 0), pt(m, m), pt(-m, -m)} {
			wantCellError(t, s, p, api.ErrArg)
		}
		for _, p := range wrongPoints() {
			wantCellError(t, s, p, api.ErrArg)
		}
	}
	for _, s := range shifts() {
		for _, p := range wrongPoints() {
			wantCellError(t, s, p, api.ErrRange)
		}
	}
}

// P4.1, Box: ordinary cells, the first ones and the last ones.
func TestBox(t *testing.T) {
	for _, c := range []struct {
		s, column, row int
		want           api.Rect
	}{
		{24, 0, 0, api.Rect{X1: -m, Y1: -m, X2: -m + 1<<24 - 1, Y2: -m + 1<<24 - 1}},
		{24, 127, 64, api.Rect{X1: m - 1<<24, Y1: 0, X2: m - 1, Y2: 1<<24 - 1}},
		{24, 63, 65, api.Rect{X1: -1 << 24, Y1: 1 << 24, X2: -1, Y2: 2<<24 - 1}},
		{24, 128, 128, api.Rect{X1: m, Y1: m, X2: m, Y2: m}},
		{24, 128, 0, api.Rect{X1: m, Y1: -m, X2: m, Y2: -m + 1<<24 - 1}},
		{24, 0, 128, api.Rect{X1: -m, Y1: m, X2: -m + 1<<24 - 1, Y2: m}},
		{30, 2, 1, api.Rect{X1: m, Y1: 0, X2: m, Y2: m - 1}},
		{30, 1, 0, api.Rect{X1: 0, Y1: -m, X2: m - 1, Y2: -1}},
		{31, 0, 0, api.Rect{X1: -m, Y1: -m, X2: m - 1, Y2: m - 1}},
		{31, 1, 0, api.Rect{X1: m, Y1: -m, X2: m, Y2: m - 1}},
		{31, 0, 1, api.Rect{X1: -m, Y1: m, X2: m - 1, Y2: m}},
		{31, 1, 1, api.Rect{X1: m, Y1: m, X2: m, Y2: m}},
	} {
		if got, err := morton.Box(c.s, c.column, c.row); err != nil || got != c.want {
			t.Error("shift", c.s, "cell", c.column, c.row, "box", got, err)
		}
	}
}

// box is a cell's rectangle, of a cell that there is.
func box(t *testing.T, s, column, row int) api.Rect {
	t.Helper()
	r, err := morton.Box(s, column, row)
	if err != nil {
		t.Fatal("shift", s, "cell", column, row, err)
	}
	return r
}

// wantCell fails if a point isn't of that cell.
func wantCell(t *testing.T, s int, p api.Point, column, row int) {
	t.Helper()
	if x, y, err := morton.Cell(s, p); err != nil || x != column || y != row {
		t.Fatal("shift", s, p, "cell", x, y, err, "not", column, row)
	}
}

// P4.1, Box: of every cell its corners are of that cell, and what lies beside them isn't, or may not be.
func TestBoxHasJustTheCellsPoints(t *testing.T) {
	for _, s := range shifts() {
		for column := range morton.Side(s) {
			for row := range morton.Side(s) {
				r := box(t, s, column, row)
				if !rect.May(r) {
					t.Fatal("shift", s, "cell", column, row, "box", r)
				}
				wantCell(t, s, pt(r.X1, r.Y1), column, row)
				wantCell(t, s, pt(r.X2, r.Y2), column, row)
				for _, p := range []api.Point{pt(r.X1-1, r.Y1), pt(r.X1, r.Y1-1), pt(r.X2+1, r.Y2), pt(r.X2, r.Y2+1)} {
					if x, y, err := morton.Cell(s, p); point.May(p) && (err != nil || x == column && y == row) {
						t.Fatal("shift", s, "cell", column, row, "has", p, err)
					}
				}
			}
		}
	}
}

// P4.1, Box and Cell: each point is in its cell's rectangle.
func TestPointIsInItsBox(t *testing.T) {
	rnd := rand.New(rand.NewSource(5))
	for _, s := range shifts() {
		for range 500 {
			p := pt(rnd.Int63n(2*m+1)-m, rnd.Int63n(2*m+1)-m)
			column, row, err := morton.Cell(s, p)
			if err != nil || !rect.In(box(t, s, column, row), p) {
				t.Fatal("shift", s, p, "cell", column, row, err)
			}
		}
	}
}

// wantNoBox fails if a cell isn't refused, by ErrArg itself, with a zero rectangle (R3).
func wantNoBox(t *testing.T, s, column, row int) {
	t.Helper()
	if r, err := morton.Box(s, column, row); err != api.ErrArg || r != (api.Rect{}) {
		t.Error("shift", s, "cell", column, row, "box", r, err)
	}
}

// P4.1, Box: ErrArg of cells that there are not, by the column, by the row, or by both.
func TestBoxWrongCells(t *testing.T) {
	for _, s := range shifts() {
		side := morton.Side(s)
		for _, n := range []int{math.MinInt, -1 << 32, -side, -1, side, side + 1, 256, 1 << 30, maxCell, 1 << 31, 1 << 32, 1 << 40, math.MaxInt} {
			wantNoBox(t, s, n, 0)
			wantNoBox(t, s, 0, n)
			wantNoBox(t, s, n, side-1)
			wantNoBox(t, s, side-1, n)
			wantNoBox(t, s, n, n)
		}
	}
}

// P4.1, Box: ErrArg of wrong shifts, whatever the cell.
func TestBoxWrongShifts(t *testing.T) {
	for _, s := range wrongShifts() {
		for _, n := range []int{math.MinInt, -1, 0, 1, 128, math.MaxInt} {
			wantNoBox(t, s, n, 0)
			wantNoBox(t, s, 0, n)
			wantNoBox(t, s, n, n)
		}
	}
}

// numbers are cells, and their numbers.
func numbers() []struct {
	column, row int
	code        uint64
} {
	return []struct {
		column, row int
		code        uint64
	}{
		{0, 0, 0}, {1, 0, 1}, {0, 1, 2}, {1, 1, 3},
		{2, 0, 4}, {3, 0, 5}, {2, 1, 6}, {3, 1, 7}, {0, 2, 8}, {1, 3, 11}, {3, 3, 15},
		{5, 3, 27}, {3, 5, 39}, {128, 128, 3 << 14}, {128, 0, 1 << 14}, {0, 128, 2 << 14},
		{1 << 30, 0, 1 << 60}, {0, 1 << 30, 1 << 61}, {1 << 30, 1 << 30, 3 << 60},
		{maxCell, 0, 0x1555555555555555}, {0, maxCell, 0x2aaaaaaaaaaaaaaa}, {maxCell, maxCell, 1<<62 - 1},
		{maxCell, 1, 0x1555555555555557}, {1, maxCell, 0x2aaaaaaaaaaaaaab},
	}
}

// P4.2, Code and Split: ordinary cells, and the edges.
func TestNumbers(t *testing.T) {
	for _, c := range numbers() {
		if got, err := morton.Code(c.column, c.row); err != nil || got != c.code {
			t.Error("cell", c.column, c.row, "number", got, err)
		}
		if column, row := morton.Split(c.code); column != c.column || row != c.row {
			t.Error("number", c.code, "cell", column, row)
		}
	}
}

// slowCode lays the bits one by one.
func slowCode(column, row int) uint64 {
	var code uint64
	for i := range 31 {
		code += uint64(column>>i%2) << (2 * i)
		code += uint64(row>>i%2) << (2*i + 1)
	}
	return code
}

// someCells are cells of every single bit, of all but one, of the least ones, and random ones.
func someCells() [][2]int {
	ns := []int{0, maxCell}
	for i := range 31 {
		ns = append(ns, 1<<i, maxCell-1<<i)
	}
	var l [][2]int
	for _, column := range ns {
		for _, row := range ns {
			l = append(l, [2]int{column, row})
		}
	}
	for column := range 130 {
		for row := range 130 {
			l = append(l, [2]int{column, row})
		}
	}
	rnd := rand.New(rand.NewSource(6))
	for range 10000 {
		l = append(l, [2]int{int(rnd.Int31()), int(rnd.Int31())})
	}
	return l
}

// P4.2, Code: the bits in turn, the column's lowest one lowest.
func TestCodeIsBitsInTurn(t *testing.T) {
	for _, c := range someCells() {
		if got, err := morton.Code(c[0], c[1]); err != nil || got != slowCode(c[0], c[1]) {
			t.Fatal("cell", c, "number", got, err)
		}
	}
}

// P4.2, Code: ErrArg itself of what isn't from 0 to 2^31 - 1, by the column, by the row, or by both.
func TestCodeWrongCells(t *testing.T) {
	for _, n := range []int{math.MinInt, math.MinInt + 1, -1 << 32, -1 << 31, -2, -1, 1 << 31, 1<<31 + 1, 1 << 32, 1<<32 + 1, 1 << 62, math.MaxInt} {
		for _, c := range [][2]int{{n, 0}, {0, n}, {n, maxCell}, {maxCell, n}, {n, n}} {
			if got, err := morton.Code(c[0], c[1]); err != api.ErrArg || got != 0 {
				t.Error("cell", c, "number", got, err)
			}
		}
	}
}

// P4.2, Split: the bits above the lowest 62 make no difference.
func TestSplitHighBits(t *testing.T) {
	for _, c := range someCells() {
		code := slowCode(c[0], c[1])
		for _, high := range []uint64{0, 1 << 62, 1 << 63, 3 << 62} {
			if column, row := morton.Split(code | high); column != c[0] || row != c[1] {
				t.Fatal("number", code|high, "cell", column, row)
			}
		}
	}
	if column, row := morton.Split(math.MaxUint64); column != maxCell || row != maxCell {
		t.Error("greatest number", column, row)
	}
}

// P4.3: a number is split into what it was made of.
func TestSplitUndoesCode(t *testing.T) {
	for _, c := range someCells() {
		code, err := morton.Code(c[0], c[1])
		if err != nil {
			t.Fatal("cell", c, err)
		}
		if column, row := morton.Split(code); column != c[0] || row != c[1] {
			t.Fatal("cell", c, "number", code, "cell", column, row)
		}
	}
}

// P4.3: and a number that is split is made again, of its lowest 62 bits.
func TestCodeUndoesSplit(t *testing.T) {
	rnd := rand.New(rand.NewSource(7))
	for range 10000 {
		code := rnd.Uint64()
		column, row := morton.Split(code)
		if again, err := morton.Code(column, row); err != nil || again != code%(1<<62) {
			t.Fatal("number", code, "cell", column, row, "number", again, err)
		}
	}
}

// bounds are the least and the greatest number of the cells of a square.
func bounds(t *testing.T, column, row, side int) (uint64, uint64) {
	t.Helper()
	least, greatest := uint64(math.MaxUint64), uint64(0)
	for x := column; x < column+side; x++ {
		for y := row; y < row+side; y++ {
			code, err := morton.Code(x, y)
			if err != nil {
				t.Fatal("cell", x, y, err)
			}
			least, greatest = min(least, code), max(greatest, code)
		}
	}
	return least, greatest
}

// P4.3: of the four quarters of each square the numbers lie apart, those of each one behind those of the one before.
func TestQuartersLieApart(t *testing.T) {
	for side := 1; side <= 32; side *= 2 {
		for column := 0; column < 128; column += 2 * side {
			for row := 0; row < 128; row += 2 * side {
				_, last := bounds(t, column, row, side)
				for _, d := range [][2]int{{side, 0}, {0, side}, {side, side}} {
					first, next := bounds(t, column+d[0], row+d[1], side)
					if first <= last {
						t.Fatal("square", column, row, side, "quarter", d, "begins with", first, "behind", last)
					}
					last = next
				}
			}
		}
	}
}

// P4.3: so of quarters of any size, at random cells in them.
func TestGreatQuartersLieApart(t *testing.T) {
	rnd := rand.New(rand.NewSource(8))
	for range 5000 {
		bits := rnd.Intn(31)
		side := 1 << bits
		column, row := int(rnd.Int31())>>(bits+1)<<(bits+1), int(rnd.Int31())>>(bits+1)<<(bits+1)
		last := int64(-1)
		for _, d := range [][2]int{{0, 0}, {side, 0}, {0, side}, {side, side}} {
			end := last
			for _, in := range [][2]int{{0, 0}, {side - 1, side - 1}, {rnd.Intn(side), rnd.Intn(side)}} {
				code, err := morton.Code(column+d[0]+in[0], row+d[1]+in[1])
				if err != nil || int64(code) <= last {
					t.Fatal("square", column, row, side, "quarter", d, "number", code, err, "behind", last)
				}
				end = max(end, int64(code))
			}
			last = end
		}
	}
}
