package table_test

import (
	"errors"
	"math"
	"slices"
	"strings"
	"testing"

	"plover/api"
	"plover/table"
)

// shifts are all that may be.
func shifts() []int { return []int{24, 25, 26, 27, 28, 29, 30, 31} }

// wrongShifts are some that may not be.
func wrongShifts() []int {
	return []int{23, 32, 0, 1, -1, -24, 63, 64, 65, 24 + 1<<32, 30 + 1<<31, math.MinInt, math.MinInt + 24, math.MaxInt}
}

// wrongMosts are some numbers that may not be the most that there are.
func wrongMosts() []int {
	return []int{0, -1, 1001, 1002, 2000, 1 << 32, 1<<32 + 1, 1<<31 + 7, math.MinInt, math.MinInt + 1, math.MaxInt}
}

// rightIds are numbers that may be.
func rightIds() []int { return []int{0, 1, 2, 255, 256, 1<<16 + 1, 1<<31 - 2, 1<<31 - 1} }

// wrongIds are numbers that may not be.
func wrongIds() []int {
	return []int{-1, -2, 1 << 31, 1<<31 + 1, 1 << 32, 1<<32 + 1, 1 << 62, math.MinInt, math.MinInt + 1, math.MaxInt - 1, math.MaxInt}
}

// rights are regions that may be: points, lines, rectangles and polygons, within cells and across their edges, at the bounds.
func rights() []api.Region {
	far := bowl(64)
	for i := range far {
		far[i] = pt(m-63+far[i].X, m-63*63+far[i].Y)
	}
	return []api.Region{
		{}, {Poly: []api.Point{}}, {Rect: rc(1, 2, 3, 4), Poly: pts(9, 9, 8, 8)[:0]},
		box(10, 10, 20, 20), box(-7, -5, -2, -3), box(5, -6, 5, -6), box(1, 2, 1, 9), box(-1, -1, 0, 0), box(1<<24-1, 0, 1<<24, 5<<24),
		box(-m, -m, m, m), box(m, m, m, m), box(-m, -m, -m, -m), box(m-1, -m, m, -m+1), box(-m, m, m, m),
		shape(0, 0, 4, 0, 0, 4), shape(3, 0, 6, 3, 3, 6, 0, 3), shape(0, 0, 6, 0, 6, 6, 3, 2, 0, 6), shape(-5, -5, 1, -5, -5, 1),
		shape(-m, -m, m, -m, m, m, -m, m), shape(m, m, m-1, m, m, m-1), shape(-m, 0, 0, -m, m, 0, 0, m),
		{Poly: bowl(64)}, {Poly: far},
	}
}

// wrongs are regions that may not be: by their rectangle, by their polygon, or by having both.
func wrongs() []api.Region {
	l := []api.Region{
		box(1, 0, 0, 0), box(0, 1, 0, 0), box(20, 20, 10, 10), box(m, 0, m-1, 0),
		shape(1, 1), shape(1, 1, 2, 2), shape(1, 1, 1, 1, 2, 2), shape(1, 1, 2, 2, 3, 3), shape(0, 0, 8, 0, 4, 0, 4, 4), shape(0, 0, 4, 4, 4, 0, 0, 4),
		{Poly: bowl(65)}, {Poly: make([]api.Point, 100000)},
		{Rect: rc(0, 0, 4, 4), Poly: pts(0, 0, 4, 0, 0, 4)}, {Rect: rc(0, 0, 0, 1), Poly: pts(0, 0, 4, 0, 0, 4)}, {Rect: rc(1, 0, 0, 0), Poly: pts(0, 0, 4, 0, 0, 4)},
	}
	for _, n := range []int64{math.MinInt64, -2 * m, -m - 1, m + 1, 2 * m, math.MaxInt64} {
		l = append(l, box(n, 0, 0, 0), box(0, n, 0, 0), box(0, 0, n, 0), box(0, 0, 0, n), box(n, n, n, n), shape(n, 0, 4, 0, 0, 4), shape(0, 0, 4, n, 0, 4))
	}
	return l
}

// wrongMoves are moves that may not be, or that bring none but the least region anywhere.
func wrongMoves() []api.Point {
	var l []api.Point
	for _, n := range []int64{math.MinInt64, math.MinInt64 + 1, -2 * m, -m - 1, m + 1, 2 * m, math.MaxInt64 - 1, math.MaxInt64} {
		l = append(l, pt(n, 0), pt(0, n), pt(n, n), pt(n, -1))
	}
	return l
}

// noFilters are texts of no filter, each with the error that Read tells.
func noFilters() map[string]api.Code {
	deep := strings.Repeat("not ", 10)
	return map[string]api.Code{
		"?": api.ErrLex, "A < 5": api.ErrLex, "a < 05": api.ErrLex, `a = "x`: api.ErrLex, "a\t< 5": api.ErrLex, "a < 9223372036854775808": api.ErrLex, strings.Repeat("a", 21) + " = 1": api.ErrLex,
		"": api.ErrParse, "a": api.ErrParse, "a <": api.ErrParse, "a < 5 and": api.ErrParse, "(true": api.ErrParse, "true true": api.ErrParse, `a in (1, "x")`: api.ErrParse, "a ^= 1": api.ErrParse, "a in ()": api.ErrParse, "not": api.ErrParse,
		strings.Repeat(" ", 497) + "true": api.ErrLarge, strings.Repeat("?", 501): api.ErrLarge, deep + "true": api.ErrLarge,
		"a in (" + strings.Repeat("1,", 20) + "1)": api.ErrLarge, strings.Repeat("true or ", 59) + "true": api.ErrLarge,
	}
}

// wantZero fails if a call isn't refused by just this error, with a zero subscription beside it.
func wantZero(t *testing.T, what string, s api.Sub, err error, want api.Code) {
	t.Helper()
	if err != want || !errors.Is(err, want) || !isZero(s) {
		t.Error(what, "answers", s, err, "not", want)
	}
}

// wantOne fails if a call's answer is another one, or an error.
func wantOne(t *testing.T, what string, s api.Sub, err error, want api.Sub) {
	t.Helper()
	if err != nil || !same(s, want) {
		t.Error(what, "answers", s, err, "not", want)
	}
}

// P19.1, New: each shift that may be, with the least and the most that there may be.
func TestNew(t *testing.T) {
	for _, s := range shifts() {
		for _, most := range []int{1, 2, 500, 999, 1000} {
			x, err := table.New(s, most)
			if err != nil || x == nil {
				t.Error("shift", s, "most", most, x, err)
			}
		}
	}
}

// P19.1, New: ErrArg, and no table, of a shift that may not be, of a most that may not be, and of both.
func TestNewOfNone(t *testing.T) {
	none := func(s, most int) {
		t.Helper()
		x, err := table.New(s, most)
		if x != nil || err != api.ErrArg || !errors.Is(err, api.ErrArg) {
			t.Error("shift", s, "most", most, x, err)
		}
	}
	for _, s := range wrongShifts() {
		for _, most := range append([]int{1, 2, 1000}, wrongMosts()...) {
			none(s, most)
		}
	}
	for _, most := range wrongMosts() {
		for _, s := range shifts() {
			none(s, most)
		}
	}
}

// The example: moved by nothing it is safe, and stays at version 1; of each region, at each shift.
func TestExample(t *testing.T) {
	for _, s := range shifts() {
		for _, g := range rights() {
			b := newBoth(t, s, 1)
			b.add(4, g, "true")
			for range 3 {
				if safe, err := b.move(4, pt(0, 0)); !safe || err != nil || b.list[0].Version != 1 {
					t.Error("shift", s, g, safe, err, b.list)
				}
			}
		}
	}
}

// P19.1, Add and Get: what is told, written out.
func TestAdd(t *testing.T) {
	for _, c := range []struct {
		s     int
		g     api.Region
		cover api.Rect
	}{
		{28, box(10, 10, 20, 20), rc(0, 0, 1<<28-1, 1<<28-1)},
		{24, box(10, 10, 20, 20), rc(0, 0, 1<<24-1, 1<<24-1)},
		{30, box(10, 10, 20, 20), rc(0, 0, 1<<30-1, 1<<30-1)},
		{31, box(10, 10, 20, 20), rc(-m, -m, m-1, m-1)},
		{24, box(-1, 0, 0, 0), rc(-1<<24, 0, 1<<24-1, 1<<24-1)},
		{24, box(0, -1, 0, 0), rc(0, -1<<24, 1<<24-1, 1<<24-1)},
		{24, box(m, -5, m, -5), rc(m, -1<<24, m, -1)},
		{27, box(-m, -m, m, m), rc(-m, -m, m, m)},
		{24, api.Region{}, rc(0, 0, 1<<24-1, 1<<24-1)},
		{24, shape(0, 0, 4, 0, 0, 4), rc(0, 0, 1<<24-1, 1<<24-1)},
		// Its box is in four cells, itself in three of them.
		{24, shape(-5, -5, 1, -5, -5, 1), rc(-1<<24, -1<<24, 1<<24-1, 1<<24-1)},
	} {
		for _, id := range rightIds() {
			for _, f := range filters() {
				x := newTable(t, c.s, 1)
				want := api.Sub{Id: id, Version: 1, Region: c.g, Filter: f, Cover: c.cover}
				got, err := x.Add(id, cloned(c.g), f)
				wantOne(t, "add", got, err, want)
				if got, is := x.Get(id); !is || !same(got, want) {
					t.Error("get of", id, got, is, "not", want)
				}
				if l := x.Subs(); len(l) != 1 || !same(l[0], want) {
					t.Error("subs", l, "not", want)
				}
			}
		}
	}
}

// P19.1, Add: all regions that may be at each shift, each with each filter; its text is kept as it was handed in, with its spaces, up to 500 bytes.
func TestAddAll(t *testing.T) {
	long := "true" + strings.Repeat(" ", 496)
	for _, s := range shifts() {
		for _, g := range rights() {
			b := newBoth(t, s, 1000)
			for id, f := range append(filters(), long, long[4:]+"true", strings.Repeat("true or ", 58)+"true", strings.Repeat("not ", 9)+"true") {
				if err := b.add(id, g, f); err != nil {
					t.Error("shift", s, g, f, err)
				}
			}
		}
	}
}

// kinds are tables of one shift: without subscriptions, with some, with one less than may be, with as many as may be.
func kinds(t *testing.T) []*both {
	t.Helper()
	var l []*both
	for _, c := range []struct{ most, has int }{{1, 0}, {1000, 0}, {1000, 3}, {4, 3}, {3, 3}, {1, 1}} {
		b := newBoth(t, 26, c.most)
		for id := range c.has {
			b.add(id, box(10, 10, 20, 20), "a < 5")
		}
		l = append(l, b)
	}
	return l
}

// P19.1, Add: ErrArg of a number that may not be, whatever else is amiss: the region, the filter, that there is no room.
func TestAddWrongId(t *testing.T) {
	for _, b := range kinds(t) {
		for _, id := range wrongIds() {
			for _, g := range []api.Region{box(0, 0, 1, 1), shape(0, 0, 4, 0, 0, 4), box(1, 0, 0, 0), {Poly: bowl(65)}} {
				for _, f := range []string{"true", "", "?", strings.Repeat(" ", 501)} {
					s, err := b.x.Add(id, g, f)
					wantZero(t, "add", s, err, api.ErrArg)
					if err := b.add(id, g, f); err != api.ErrArg {
						t.Error(id, g, f, err)
					}
				}
			}
		}
	}
}

// P19.1, Add: ErrArg of a region that may not be, whatever else is amiss: the filter, that there is one of that number, that there is no room.
func TestAddWrongRegion(t *testing.T) {
	for _, b := range kinds(t) {
		for _, g := range wrongs() {
			for _, id := range []int{0, 1, 2, 3, 1<<31 - 1} {
				for _, f := range []string{"true", "a <", "?"} {
					s, err := b.x.Add(id, g, f)
					wantZero(t, "add", s, err, api.ErrArg)
				}
			}
			b.add(0, g, "true")
		}
	}
}

// P19.1, Add: filter.Read's error, be there one of that number, be there no room, be its version the greatest.
func TestAddWrongFilter(t *testing.T) {
	for _, b := range kinds(t) {
		b.raise(7, 1<<31-1)
		for f, want := range noFilters() {
			for _, g := range []api.Region{box(10, 10, 20, 20), shape(0, 0, 4, 0, 0, 4)} {
				for _, id := range []int{0, 2, 3, 7, 1<<31 - 1} {
					s, err := b.x.Add(id, g, f)
					wantZero(t, "add with "+f, s, err, want)
				}
			}
			b.add(7, box(10, 10, 20, 20), f)
		}
		s, err := b.x.Add(7, api.Region{}, strings.Repeat("true ", 1<<20))
		wantZero(t, "add with a long text", s, err, api.ErrLarge)
	}
}

// P19.1, Add: ErrTwice, be there room or not, though all is the same; what is there stays.
func TestAddTwice(t *testing.T) {
	for _, b := range kinds(t) {
		for _, s := range slices.Clone(b.list) {
			for _, g := range []api.Region{s.Region, box(0, 0, 1, 1), shape(0, 0, 4, 0, 0, 4)} {
				for _, f := range []string{s.Filter, "true"} {
					got, err := b.x.Add(s.Id, g, f)
					wantZero(t, "add", got, err, api.ErrTwice)
					if err := b.add(s.Id, g, f); err != api.ErrTwice {
						t.Error(s, g, f, err)
					}
				}
			}
		}
	}
}

// P19.1, Add: ErrFull, if there are as many as may be; with one less there is room for just one; and a drop makes room for one.
func TestAddFull(t *testing.T) {
	for _, most := range []int{1, 2, 3, 17, 1000} {
		b := newBoth(t, 24, most)
		for id := range most {
			// No answers are held against the list yet, for there are many.
			if _, err := b.x.Add(3*id, box(int64(id), 0, 2000, 5), "true"); err != nil {
				t.Fatal(most, id, err)
			}
			b.told[3*id]++
			b.list = append(b.list, api.Sub{Id: 3 * id, Version: 1, Region: box(int64(id), 0, 2000, 5), Filter: "true", Cover: rc(0, 0, 1<<24-1, 1<<24-1)})
		}
		b.all()
		for _, id := range []int{1, 3*most + 1, 1<<31 - 1} {
			s, err := b.x.Add(id, box(0, 0, 1, 1), "true")
			wantZero(t, "add", s, err, api.ErrFull)
			b.add(id, box(0, 0, 1, 1), "true")
		}
		b.drop(3 * (most - 1))
		for i, id := range []int{1, 4, 3 * (most - 1)} {
			if err := b.add(id, shape(0, 0, 4, 0, 0, 4), "a < 5"); (err == nil) != (i == 0) || i > 0 && err != api.ErrFull {
				t.Error(most, id, err)
			}
		}
		if err := b.add(1, box(0, 0, 1, 1), "true"); err != api.ErrTwice {
			t.Error(most, err)
		}
	}
}

// P19.1, Subs: by rising numbers, in whichever order they come.
func TestSubsRise(t *testing.T) {
	for _, ids := range [][]int{{5, 3, 9, 0, 1<<31 - 1, 4}, {0, 1, 2, 3}, {3, 2, 1, 0}, {1<<31 - 1, 1<<31 - 2, 10, 9, 100, 99}} {
		b := newBoth(t, 25, 10)
		for i, id := range ids {
			b.add(id, box(int64(i), 0, 50, 5), "true")
		}
		for _, id := range ids {
			b.move(id, pt(-20, 1))
			b.drop(id)
			b.add(id, box(0, 0, 5, 5), "true")
		}
		for _, id := range ids {
			b.drop(id)
		}
		if l := b.x.Subs(); len(l) != 0 {
			t.Error(ids, l)
		}
	}
}

// P19.1 to P19.3: of a number that isn't there nothing is told, be it one that may be or not, dropped or never there.
func TestNone(t *testing.T) {
	for _, b := range kinds(t) {
		if len(b.list) > 0 {
			b.drop(0)
		}
		for _, id := range append([]int{0, 3, 4, 1<<31 - 1}, wrongIds()...) {
			if s, is := b.x.Get(id); is || !isZero(s) {
				t.Error("get of", id, s, is)
			}
			for _, d := range append(wrongMoves(), pts(0, 0, 1, 1, m, -m)...) {
				s, safe, err := b.x.Move(id, d)
				wantZero(t, "move", s, err, api.ErrNone)
				if safe {
					t.Error("move of", id, "is safe")
				}
			}
			s, err := b.x.Drop(id)
			wantZero(t, "drop", s, err, api.ErrNone)
			for _, p := range pts(0, 0, 10, 10, 15, 15, m+1, 0) {
				if b.x.Wants(id, api.Event{At: p}) {
					t.Error(id, "wants at", p)
				}
			}
			b.drop(id)
			b.move(id, pt(0, 0))
		}
	}
}

// step is a move, and what comes of it: an error, or whether it is safe, the version, the region and the cover.
type step struct {
	d       api.Point
	err     error
	safe    bool
	version int
	g       api.Region
	cover   api.Rect
}

// wantSteps adds a region at a shift, and fails if its moves don't come to what is written.
func wantSteps(t *testing.T, s int, g api.Region, steps ...step) {
	t.Helper()
	b := newBoth(t, s, 3)
	b.add(9, g, `b = "x"`)
	for _, c := range steps {
		safe, err := b.move(9, c.d)
		got, is := b.x.Get(9)
		want := api.Sub{Id: 9, Version: c.version, Region: c.g, Filter: `b = "x"`, Cover: c.cover}
		if safe != c.safe || err != c.err || !is || !same(got, want) {
			t.Fatal("shift", s, g, "by", c.d, "comes to", got, safe, err, "not", c)
		}
	}
}

// P19.2, Move: within the cover up to its edges, out of it by one, each way; behind it the cover is another one, and the way back is no longer safe.
func TestMove(t *testing.T) {
	home := rc(0, 0, 1<<24-1, 1<<24-1)
	const e = 1<<24 - 1
	wantSteps(t, 24, box(10, 10, 20, 20),
		step{pt(-10, 0), nil, true, 1, box(0, 10, 10, 20), home},
		step{pt(0, -10), nil, true, 1, box(0, 0, 10, 10), home},
		step{pt(e-10, e-10), nil, true, 1, box(e-10, e-10, e, e), home},
		step{pt(0, 0), nil, true, 1, box(e-10, e-10, e, e), home},
		step{pt(1, 0), nil, false, 2, box(e-9, e-10, e+1, e), rc(0, 0, 2<<24-1, e)},
		step{pt(-1, 0), nil, true, 2, box(e-10, e-10, e, e), rc(0, 0, 2<<24-1, e)},
		step{pt(5, 0), nil, true, 2, box(e-5, e-10, e+5, e), rc(0, 0, 2<<24-1, e)},
		step{pt(0, 1), nil, false, 3, box(e-5, e-9, e+5, e+1), rc(0, 0, 2<<24-1, 2<<24-1)},
		step{pt(6, 10), nil, true, 3, box(e+1, e+1, e+11, e+11), rc(0, 0, 2<<24-1, 2<<24-1)},
		step{pt(1<<24, 0), nil, false, 4, box(2<<24, e+1, 2<<24+10, e+11), rc(2<<24, 1<<24, 3<<24-1, 2<<24-1)},
		step{pt(-1, 0), nil, false, 5, box(2<<24-1, e+1, 2<<24+9, e+11), rc(1<<24, 1<<24, 3<<24-1, 2<<24-1)},
		step{pt(0, -1), nil, false, 6, box(2<<24-1, e, 2<<24+9, e+10), rc(1<<24, 0, 3<<24-1, 2<<24-1)},
	)
	wantSteps(t, 28, shape(10, 10, 20, 10, 10, 20),
		step{pt(-10, 100), nil, true, 1, shape(0, 110, 10, 110, 0, 120), rc(0, 0, 1<<28-1, 1<<28-1)},
		step{pt(-1, 0), nil, false, 2, shape(-1, 110, 9, 110, -1, 120), rc(-1<<28, 0, 1<<28-1, 1<<28-1)},
		step{pt(1, 0), nil, true, 2, shape(0, 110, 10, 110, 0, 120), rc(-1<<28, 0, 1<<28-1, 1<<28-1)},
		step{pt(-11, 0), nil, true, 2, shape(-11, 110, -1, 110, -11, 120), rc(-1<<28, 0, 1<<28-1, 1<<28-1)},
		step{pt(0, -111), nil, false, 3, shape(-11, -1, -1, -1, -11, 9), rc(-1<<28, -1<<28, -1, 1<<28-1)},
	)
}

// P19.2, Move: up to the bounds of the whole, and beyond; an error leaves all as it was.
func TestMoveAtTheBounds(t *testing.T) {
	whole := rc(-m, -m, m, m)
	for _, s := range shifts() {
		wantSteps(t, s, box(-m, -m, m, m),
			step{pt(0, 0), nil, true, 1, box(-m, -m, m, m), whole},
			step{pt(1, 0), api.ErrRange, false, 1, box(-m, -m, m, m), whole},
			step{pt(0, -1), api.ErrRange, false, 1, box(-m, -m, m, m), whole},
			step{pt(m+1, 0), api.ErrRange, false, 1, box(-m, -m, m, m), whole},
		)
		// From one bound to the other one would be safe, but there is no such move.
		wantSteps(t, s, shape(-m, -m, m, -m, m, -m+1), step{pt(0, 2*m-1), api.ErrRange, false, 1, shape(-m, -m, m, -m, m, -m+1), slowCover(s, shape(-m, -m, m, -m, m, -m+1))})
	}
	wantSteps(t, 30, box(m-4, m-4, m-1, m-1),
		step{pt(2, 0), api.ErrRange, false, 1, box(m-4, m-4, m-1, m-1), rc(0, 0, m-1, m-1)},
		step{pt(0, 2), api.ErrRange, false, 1, box(m-4, m-4, m-1, m-1), rc(0, 0, m-1, m-1)},
		step{pt(1, 0), nil, false, 2, box(m-3, m-4, m, m-1), rc(0, 0, m, m-1)},
		step{pt(0, 1), nil, false, 3, box(m-3, m-3, m, m), rc(0, 0, m, m)},
		step{pt(1, 0), api.ErrRange, false, 3, box(m-3, m-3, m, m), rc(0, 0, m, m)},
		step{pt(-m, -m), nil, false, 4, box(-3, -3, 0, 0), rc(-m, -m, m-1, m-1)},
		step{pt(3-m, 0), nil, true, 4, box(-m, -3, -m+3, 0), rc(-m, -m, m-1, m-1)},
		step{pt(-1, 0), api.ErrRange, false, 4, box(-m, -3, -m+3, 0), rc(-m, -m, m-1, m-1)},
		step{pt(0, 3-m), nil, true, 4, box(-m, -m, -m+3, -m+3), rc(-m, -m, m-1, m-1)},
		step{pt(0, -1), api.ErrRange, false, 4, box(-m, -m, -m+3, -m+3), rc(-m, -m, m-1, m-1)},
		step{pt(m-4, 3), nil, true, 4, box(-4, -m+3, -1, -m+6), rc(-m, -m, m-1, m-1)},
		step{pt(m, 0), nil, true, 4, box(m-4, -m+3, m-1, -m+6), rc(-m, -m, m-1, m-1)},
		step{pt(1, 0), nil, false, 5, box(m-3, -m+3, m, -m+6), rc(0, -m, m, -1)},
	)
	// Of a point at the very last column the cover is as narrow as it.
	wantSteps(t, 24, box(m, m, m, m),
		step{pt(0, 0), nil, true, 1, box(m, m, m, m), rc(m, m, m, m)},
		step{pt(0, -1), nil, false, 2, box(m, m-1, m, m-1), rc(m, m-1<<24, m, m-1)},
		step{pt(0, 1), nil, false, 3, box(m, m, m, m), rc(m, m, m, m)},
		step{pt(-1, 0), nil, false, 4, box(m-1, m, m-1, m), rc(m-1<<24, m, m-1, m)},
		step{pt(1, 0), nil, false, 5, box(m, m, m, m), rc(m, m, m, m)},
		step{pt(-m, -m), nil, false, 6, api.Region{}, rc(0, 0, 1<<24-1, 1<<24-1)},
		step{pt(m, 0), nil, false, 7, box(m, 0, m, 0), rc(m, 0, m, 1<<24-1)},
	)
}

// P19.2, Move: ErrRange of a move that may not be, and of one that brings a corner, or a point, beyond, of all regions at each shift; nothing changes.
func TestMoveBeyond(t *testing.T) {
	for _, s := range shifts() {
		b := newBoth(t, s, 1000)
		for i, g := range rights() {
			b.add(i, g, "true")
			r := slowBox(g)
			for _, d := range append(wrongMoves(), pts(m-r.X2+1, 0, -m-r.X1-1, 0, 0, m-r.Y2+1, 0, -m-r.Y1-1)...) {
				got, safe, err := b.x.Move(i, d)
				wantZero(t, "move", got, err, api.ErrRange)
				if safe {
					t.Error("shift", s, g, "by", d, "is safe")
				}
			}
			if _, err := b.move(i, pt(m+1, 0)); err != api.ErrRange {
				t.Error("shift", s, g, err)
			}
		}
	}
}

// P19.2, Move: of several just the one that is asked for is moved.
func TestMoveOne(t *testing.T) {
	b := newBoth(t, 24, 5)
	for id := range 5 {
		b.add(id, box(10, 10, 20, 20), "true")
	}
	for i, d := range pts(1, 1, -12, 0, 0, 0, 1<<24, 5, m+1, 0) {
		b.move(i, d)
	}
	for id, want := range []int{1, 2, 1, 2, 1} {
		if s, is := b.x.Get(id); !is || s.Version != want {
			t.Error(id, s, is, "not", want)
		}
	}
}

// P19.1, P19.2: dropped, its version is one more; added anew, one more again; another number has its own ones.
func TestDropAndAddAnew(t *testing.T) {
	b := newBoth(t, 24, 3)
	b.add(8, box(0, 0, 1, 1), "true")
	b.add(6, box(0, 0, 1, 1), "true")
	version := 1
	for range 5 {
		got, err := b.x.Drop(6)
		version++
		wantOne(t, "drop", got, err, api.Sub{Id: 6, Version: version, Region: box(0, 0, 1, 1), Filter: "true", Cover: rc(0, 0, 1<<24-1, 1<<24-1)})
		got, err = b.x.Drop(6)
		wantZero(t, "drop", got, err, api.ErrNone)
		got, err = b.x.Add(6, box(0, 0, 1, 1), "true")
		version++
		wantOne(t, "add", got, err, api.Sub{Id: 6, Version: version, Region: box(0, 0, 1, 1), Filter: "true", Cover: rc(0, 0, 1<<24-1, 1<<24-1)})
		if s, is := b.x.Get(8); !is || s.Version != 1 {
			t.Error(s, is)
		}
	}
	b.told[6] = version
	b.list[1].Version = version
	b.all()
	// Moved out, then dropped where it stands, then added anew with another region, another filter.
	b.move(6, pt(-5, 0))
	b.drop(6)
	b.add(6, shape(0, 0, 4, 0, 0, 4), "a < 5")
	if s, is := b.x.Get(6); !is || s.Version != version+3 || s.Filter != "a < 5" || len(s.Region.Poly) != 3 {
		t.Error(s, is, version)
	}
	b.drop(8)
	if err := b.add(8, box(0, 0, 1, 1), "true"); err != nil || b.list[1].Version != 3 {
		t.Error(err, b.list)
	}
}

// P19.1, P19.2: an add that is refused counts as nothing told: the next version is as if it had never been.
func TestRefusedAddCountsNothing(t *testing.T) {
	b := newBoth(t, 24, 1)
	b.add(1, box(0, 0, 1, 1), "true")
	for range 3 {
		b.add(2, box(0, 0, 1, 1), "true")
		b.add(2, box(1, 0, 0, 0), "true")
		b.add(2, box(0, 0, 1, 1), "a <")
		b.add(1, box(0, 0, 1, 1), "true")
	}
	b.drop(1)
	b.add(2, box(0, 0, 1, 1), "true")
	b.add(1, box(0, 0, 1, 1), "true")
	b.drop(2)
	b.add(1, box(0, 0, 1, 1), "true")
	if b.list[0].Version != 3 {
		t.Error(b.list)
	}
}

// P19.3: the region and the filter, both; the first attribute of a name; whatever the event's Pub and Seq are.
func TestWants(t *testing.T) {
	four, five := []api.Attr{number("a", 4)}, []api.Attr{number("a", 5)}
	for _, c := range []struct {
		g       api.Region
		f       string
		l       []api.Attr
		in, out []api.Point
	}{
		{box(0, 0, 4, 3), "true", nil, pts(0, 0, 4, 3, 2, 0, 0, 1, 4, 2, 1, 1), pts(-1, 0, 5, 0, 0, -1, 0, 4, 5, 4, m, m, m+1, 0, 0, -m-1)},
		{box(0, 0, 4, 3), "a < 5", four, pts(0, 0, 4, 3, 2, 0, 1, 1), pts(-1, 0, 5, 0, 0, 4)},
		{box(0, 0, 4, 3), "a < 5", five, nil, pts(0, 0, 4, 3, 2, 0, 1, 1, -1, 0)},
		{box(0, 0, 4, 3), "a < 5", nil, nil, pts(0, 0, 1, 1)},
		{box(0, 0, 4, 3), "not a < 5", nil, pts(0, 0, 1, 1), pts(5, 5)},
		{box(0, 0, 4, 3), "not true", four, nil, pts(0, 0, 1, 1, 5, 5)},
		{box(0, 0, 4, 3), "a < 5", []api.Attr{number("b", 1), number("a", 4), number("a", 5)}, pts(1, 1), pts(5, 1)},
		{box(0, 0, 4, 3), "a < 5", []api.Attr{text("a", "4")}, nil, pts(1, 1)},
		{box(0, 0, 4, 3), `a < 5 and (b = "x" or not c in (1))`, []api.Attr{number("a", 4), number("c", 1)}, nil, pts(1, 1)},
		{box(0, 0, 4, 3), `a < 5 and (b = "x" or not c in (1))`, []api.Attr{number("a", 4), number("c", 1), text("b", "x")}, pts(1, 1), nil},
		{api.Region{}, "true", nil, pts(0, 0), pts(1, 0, 0, 1, -1, 0, 0, -1)},
		{box(-m, -m, m, m), "true", nil, pts(-m, -m, m, m, m, -m, 0, 0), pts(m+1, 0, -m-1, 0, 0, m+1, math.MinInt64, math.MaxInt64)},
		{shape(0, 0, 4, 0, 0, 4), "true", nil, pts(0, 0, 4, 0, 0, 4, 2, 2, 1, 1, 3, 1), pts(3, 3, 3, 2, 4, 4, -1, 0, 5, 0)},
		{shape(0, 0, 4, 0, 0, 4), "a < 5", four, pts(0, 0, 2, 2, 1, 1), pts(3, 3)},
		{shape(0, 0, 4, 0, 0, 4), "a < 5", five, nil, pts(0, 0, 2, 2, 1, 1, 3, 3)},
	} {
		b := newBoth(t, 24, 4)
		b.add(7, c.g, c.f)
		b.add(8, box(-m, -m, m, m), "true")
		ask := func(by api.Point, is bool, l []api.Point) {
			t.Helper()
			for _, p := range l {
				e := api.Event{Pub: 1 << 31, Seq: 7, At: pt(p.X+by.X, p.Y+by.Y), Attrs: c.l}
				if got := b.x.Wants(7, e); got != is || b.wants(7, e) != is {
					t.Error(c.g, c.f, "wants", e, got)
				}
			}
		}
		ask(pt(0, 0), true, c.in)
		ask(pt(0, 0), false, c.out)
		if c.g.Rect.X1 == -m {
			continue
		}
		// Where it stands now counts, not its cover, nor where it stood.
		for _, d := range pts(100, 200, -100, -200, 9, 0, -1<<25, 5) {
			if _, err := b.move(7, d); err != nil {
				t.Fatal(err)
			}
			at := pt(b.list[0].Region.Rect.X1-c.g.Rect.X1, b.list[0].Region.Rect.Y1-c.g.Rect.Y1)
			if len(c.g.Poly) > 0 {
				at = pt(b.list[0].Region.Poly[0].X-c.g.Poly[0].X, b.list[0].Region.Poly[0].Y-c.g.Poly[0].Y)
			}
			ask(at, true, c.in)
			ask(at, false, c.out)
			if at != pt(0, 0) {
				ask(pt(at.X+50, at.Y), false, c.in)
			}
		}
		b.drop(7)
		ask(pt(0, 0), false, c.in)
	}
}

// P1, P19.4: no call panics, and all end, whatever they are given, and what is handed in stays as it was.
func TestAnything(t *testing.T) {
	many, regions := make([]api.Attr, 2000), wrongs()
	for _, b := range kinds(t) {
		b.add(5, box(0, 0, 4, 3), "a < 5")
		for _, id := range slices.Concat(rightIds(), wrongIds(), []int{5}) {
			for _, g := range regions {
				b.x.Add(id, g, "true")
			}
			for f := range noFilters() {
				b.x.Add(id, box(0, 0, 4, 3), f)
			}
			for _, d := range wrongMoves() {
				b.x.Move(id, d)
				b.x.Wants(id, api.Event{Pub: math.MinInt, At: d, Attrs: many})
			}
			b.x.Get(id)
			b.wants(id, api.Event{At: pt(1, 1), Attrs: many})
			b.wants(id, api.Event{At: pt(1, 1), Attrs: append(slices.Clone(many), number("a", 4))})
		}
		b.all()
	}
}
