package own_test

import (
	"errors"
	"fmt"
	"math/big"
	"math/rand"
	"slices"
	"testing"

	"plover/api"
	"plover/own"
)

// cell is a cell: its number, and all its points.
type cell struct {
	number *big.Int
	box    api.Rect
}

// slowNumber lays the bits of a column and a row in turn, one by one.
func slowNumber(column, row int) *big.Int {
	n := new(big.Int)
	for i := 0; column>>i > 0 || row>>i > 0; i++ {
		n.SetBit(n, 2*i, uint(column>>i&1))
		n.SetBit(n, 2*i+1, uint(row>>i&1))
	}
	return n
}

// slowCells are all cells of a shift, worked out from the words of layer 4 alone: column by column, the last one last.
func slowCells(s int) []cell {
	var l []cell
	size := int64(1) << s
	column := 0
	for x := int64(-m); x <= m; x += size {
		row := 0
		for y := int64(-m); y <= m; y += size {
			l = append(l, cell{slowNumber(column, row), rc(x, y, min(x+size-1, m), min(y+size-1, m))})
			row++
		}
		column++
	}
	return l
}

// slowOwners are the owners of cells: divided with numbers of any size.
func slowOwners(cells []cell, brokers int) []int {
	greatest := new(big.Int)
	for _, c := range cells {
		if c.number.Cmp(greatest) > 0 {
			greatest = c.number
		}
	}
	bound := new(big.Int).Add(greatest, big.NewInt(1))
	var l []int
	for _, c := range cells {
		n := new(big.Int).Mul(c.number, big.NewInt(int64(brokers)))
		l = append(l, int(n.Quo(n, bound).Int64()))
	}
	return l
}

// oracle tells owners by the words of the chapter; what it worked out once it keeps, so that much can be asked.
type oracle struct {
	cells  map[int][]cell
	owners map[[2]int][]int
}

// newOracle knows nothing yet.
func newOracle() oracle { return oracle{map[int][]cell{}, map[[2]int][]int{}} }

// plane are the cells of a shift, and the owner of each.
func (o oracle) plane(s, brokers int) ([]cell, []int) {
	if o.cells[s] == nil {
		o.cells[s] = slowCells(s)
	}
	k := [2]int{s, brokers}
	if o.owners[k] == nil {
		o.owners[k] = slowOwners(o.cells[s], brokers)
	}
	return o.cells[s], o.owners[k]
}

// slowMay tells whether numbers, put between the bounds, are in order.
func slowMay(ns ...int64) bool {
	return slices.IsSorted(append(append([]int64{-1 << 30}, ns...), 1<<30))
}

// slowDivision tells whether there is a division at all.
func slowDivision(s, brokers int) bool { return 24 <= s && s <= 31 && 1 <= brokers && brokers <= 64 }

// of goes from cell to cell, to the one that has a point.
func (o oracle) of(s, brokers int, p api.Point) (int, error) {
	if !slowDivision(s, brokers) {
		return 0, api.ErrArg
	}
	if !slowMay(p.X) || !slowMay(p.Y) {
		return 0, api.ErrRange
	}
	cells, owners := o.plane(s, brokers)
	for i, c := range cells {
		if c.box.X1 <= p.X && p.X <= c.box.X2 && c.box.Y1 <= p.Y && p.Y <= c.box.Y2 {
			return owners[i], nil
		}
	}
	return 0, errors.New("no cell")
}

// all goes from cell to cell, and takes the owners of those that have a point of a rectangle.
func (o oracle) all(s, brokers int, r api.Rect) ([]int, error) {
	if !slowDivision(s, brokers) || !slowMay(r.X1, r.X2) || !slowMay(r.Y1, r.Y2) {
		return nil, api.ErrArg
	}
	cells, owners := o.plane(s, brokers)
	var has [64]bool
	for i, c := range cells {
		if c.box.X1 <= r.X2 && r.X1 <= c.box.X2 && c.box.Y1 <= r.Y2 && r.Y1 <= c.box.Y2 {
			has[owners[i]] = true
		}
	}
	var l []int
	for n, is := range has {
		if is {
			l = append(l, n)
		}
	}
	return l, nil
}

// wantOf fails if a point's owner is another one than by the slow way; it tells what came of it.
func (o oracle) wantOf(t testing.TB, s, brokers int, p api.Point) string {
	t.Helper()
	want, wantErr := o.of(s, brokers, p)
	if got, err := own.Of(s, brokers, p); got != want || err != wantErr {
		t.Fatal("shift", s, brokers, "brokers,", p, "is of", got, err, "not", want, wantErr)
	}
	return fmt.Sprint("of ", wantErr)
}

// wantAll fails if a cover's owners are others than by the slow way; it tells what came of it.
func (o oracle) wantAll(t testing.TB, s, brokers int, r api.Rect) string {
	t.Helper()
	want, wantErr := o.all(s, brokers, r)
	if got, err := own.All(s, brokers, r); !slices.Equal(got, want) || err != wantErr {
		t.Fatal("shift", s, brokers, "brokers,", r, "is of", got, err, "not", want, wantErr)
	}
	if len(want) > 1 {
		return "all, several"
	}
	return fmt.Sprint("all ", wantErr)
}

// P18.1: for each shift and each number of brokers the owner of each cell: of its first point, its last one, and all of it.
func TestEachCell(t *testing.T) {
	for _, s := range shifts() {
		cells := slowCells(s)
		for brokers := 1; brokers <= 64; brokers++ {
			owners := slowOwners(cells, brokers)
			for i, c := range cells {
				first, err1 := own.Of(s, brokers, pt(c.box.X1, c.box.Y1))
				last, err2 := own.Of(s, brokers, pt(c.box.X2, c.box.Y2))
				l, err3 := own.All(s, brokers, c.box)
				if err1 != nil || err2 != nil || err3 != nil || first != owners[i] || last != owners[i] || len(l) != 1 || l[0] != owners[i] {
					t.Fatal("shift", s, brokers, "brokers,", c.box, "is of", first, last, l, "not", owners[i], err1, err2, err3)
				}
			}
		}
	}
}

// P18.1, All: the whole, each quarter, each column and row of it at the bounds, for each shift and each number of brokers.
func TestEachDivision(t *testing.T) {
	o := newOracle()
	l := []api.Rect{
		whole(), rc(-m, -m, -1, -1), rc(0, -m, m-1, -1), rc(-m, 0, -1, m-1), rc(0, 0, m-1, m-1), rc(-m, -m, m-1, m-1),
		rc(m, -m, m, m), rc(-m, m, m, m), rc(-m, -m, -m, m), rc(-m, -m, m, -m), rc(-1, -1, 0, 0),
	}
	for _, s := range shifts() {
		for brokers := 1; brokers <= 64; brokers++ {
			for _, r := range l {
				o.wantAll(t, s, brokers, r)
			}
		}
	}
}

// marks are coordinates at both ends of cells: of the first one, of those in the middle, of the last ones.
func marks(s int) []int64 {
	var l []int64
	for _, n := range []int64{-m, -m + 1<<s - 1, -m + 1<<s, -1, 0, 1 << 29, m - 1, m} {
		if n <= m {
			l = append(l, n)
		}
	}
	slices.Sort(l)
	return slices.Compact(l)
}

// P18.1, All: all rectangles of a few coordinates at cells' edges, be their sides in order or not.
func TestEachRect(t *testing.T) {
	o := newOracle()
	rnd := rand.New(rand.NewSource(18))
	for _, s := range shifts() {
		ns := marks(s)
		for _, x1 := range ns {
			for _, x2 := range ns {
				for _, y1 := range ns {
					for _, y2 := range ns {
						o.wantAll(t, s, 1+rnd.Intn(64), rc(x1, y1, x2, y2))
					}
				}
			}
		}
	}
}

// drawn draws shifts, brokers, points and rectangles.
type drawn struct{ *rand.Rand }

// shift may be, but now and then.
func (r drawn) shift() int {
	if l := wrongShifts(); r.Intn(20) == 0 {
		return l[r.Intn(len(l))]
	}
	return 24 + r.Intn(8)
}

// brokers may be, but now and then.
func (r drawn) brokers() int {
	if l := wrongBrokers(); r.Intn(20) == 0 {
		return l[r.Intn(len(l))]
	}
	return 1 + r.Intn(64)
}

// number is a coordinate that may be, but now and then: anywhere, or about a cell's edge.
func (r drawn) number() int64 {
	if l := outermost(); r.Intn(40) == 0 {
		return l[r.Intn(len(l))]
	}
	if r.Intn(2) == 0 {
		return r.Int63n(2*m+1) - m
	}
	return max(-m, min(m, (r.Int63n(129)-64)<<24+r.Int63n(3)-1))
}

// rect has its sides in order, but now and then, and any size.
func (r drawn) rect() api.Rect {
	a, b := pt(r.number(), r.number()), pt(r.number(), r.number())
	if r.Intn(3) > 0 {
		// A small one: of it a cover has just a few cells.
		b = pt(min(m, a.X+r.Int63n(int64(1)<<(1+r.Intn(27)))), min(m, a.Y+r.Int63n(int64(1)<<(1+r.Intn(27)))))
	}
	if r.Intn(20) == 0 {
		return rc(a.X, a.Y, b.X, b.Y)
	}
	return rc(min(a.X, b.X), min(a.Y, b.Y), max(a.X, b.X), max(a.Y, b.Y))
}

// P18.1: drawn shifts, brokers, points and rectangles, those that may not be among them.
func TestDrawn(t *testing.T) {
	o := newOracle()
	r := drawn{rand.New(rand.NewSource(181))}
	counts := map[string]int{}
	for range 12000 {
		counts[o.wantOf(t, r.shift(), r.brokers(), pt(r.number(), r.number()))]++
		counts[o.wantAll(t, r.shift(), r.brokers(), r.rect())]++
	}
	for _, k := range []string{"of <nil>", fmt.Sprint("of ", api.ErrArg), fmt.Sprint("of ", api.ErrRange), "all <nil>", "all, several", fmt.Sprint("all ", api.ErrArg)} {
		if counts[k] < 300 {
			t.Error("only", counts[k], "of", k, counts)
		}
	}
}

// P18.1: both calls, by any numbers, and by these folded into what may be.
func FuzzBoth(f *testing.F) {
	o := newOracle()
	f.Add(30, 3, int64(-1), int64(0), int64(m), int64(m))
	f.Add(24, 64, int64(-m), int64(-m), int64(m), int64(m))
	f.Add(23, 65, int64(-m-1), int64(m+1), int64(0), int64(0))
	f.Add(-1<<63, 1<<63-1, int64(-1<<63), int64(1<<63-1), int64(-1<<63), int64(1<<63-1))
	f.Fuzz(func(t *testing.T, s, brokers int, x1, y1, x2, y2 int64) {
		fold := func(n int64) int64 { return n % (m + 1) }
		o.wantOf(t, s, brokers, pt(x1, y1))
		o.wantAll(t, s, brokers, rc(x1, y1, x2, y2))
		s, brokers = 24+s&7, 1+brokers&63
		o.wantOf(t, s, brokers, pt(x1, y1))
		o.wantAll(t, s, brokers, rc(x1, y1, x2, y2))
		x1, y1, x2, y2 = fold(x1), fold(y1), fold(x2), fold(y2)
		o.wantOf(t, s, brokers, pt(x1, y1))
		o.wantAll(t, s, brokers, rc(x1, y1, x2, y2))
		o.wantAll(t, s, brokers, rc(min(x1, x2), min(y1, y2), max(x1, x2), max(y1, y2)))
	})
}
