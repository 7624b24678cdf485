package rtree_test

import (
	"math"
	"math/rand"
	"slices"
	"testing"

	"plover/api"
)

// nine are nine rectangles that touch each other at their sides and corners, and one that has all of them.
func nine(t *testing.T, order int, far int64) *both {
	b := newBoth(t, order)
	for i := range int64(9) {
		x, y := []int64{-far, -1, 1, far}, []int64{-far, 0, 3, far}
		b.put(int(8-i), rc(x[i%3], y[i/3], x[i%3+1], y[i/3+1]))
	}
	b.put(9, rc(-far, -far, far, far))
	return b
}

// P14.2: At and Window at sides and corners, that only touch, and beside them.
func TestTouch(t *testing.T) {
	for _, order := range orders() {
		for _, far := range []int64{5, m - 1, m} {
			b := nine(t, order, far)
			l := []int64{-far - 1, -far, -far + 1, -2, -1, 0, 1, 2, 3, 4, far - 1, far, far + 1}
			for _, x := range l {
				for _, y := range l {
					b.at(pt(x, y))
					b.window(at(x, y))
					b.window(rc(-far, -far, x, y))
					b.window(rc(x, y, far, far))
					b.window(rc(x, -far, x, far))
					b.window(rc(-far, y, far, y))
				}
			}
			if got := b.x.At(pt(1, 3)); !slices.Equal(got, []int{0, 1, 3, 4, 9}) {
				t.Error(got)
			}
			if got := b.x.Window(rc(0, 3, 0, 3)); !slices.Equal(got, []int{1, 4, 9}) {
				t.Error(got)
			}
			if got := b.x.Window(rc(1, 4, 1, 4)); !slices.Equal(got, []int{0, 1, 9}) {
				t.Error(got)
			}
			b.all()
		}
	}
}

// P14.2: Window of a rectangle that may not be is none, and of a point that may not be there is none.
func TestWrongQuestions(t *testing.T) {
	b := newBoth(t, 4)
	empty := newBoth(t, 4)
	for i := range 30 {
		b.put(i, []api.Rect{whole(), at(0, 0), rc(0, 0, 1, 1), at(m, m), at(-m, -m)}[i%5])
	}
	for _, r := range wrongRects() {
		for _, x := range []*both{b, empty} {
			if got := x.x.Window(r); len(got) != 0 {
				t.Error(r, got)
			}
		}
	}
	for _, n := range []int64{math.MinInt64, math.MinInt64 + 1, -1 << 32, -m - 1, m + 1, 1 << 32, math.MaxInt64 - 1, math.MaxInt64} {
		for _, p := range []api.Point{pt(n, 0), pt(0, n), pt(n, n), pt(n, -n), pt(m, n), pt(n, -m)} {
			for _, x := range []*both{b, empty} {
				if got := x.x.At(p); len(got) != 0 {
					t.Error(p, got)
				}
			}
		}
	}
	b.all()
	empty.all()
}

// P14.2: an index without items has none at any place, and not at (0, 0) either, which a zero rectangle has.
func TestNoneAtZero(t *testing.T) {
	for _, order := range orders() {
		b := newBoth(t, order)
		for range 2 {
			b.at(pt(0, 0))
			b.window(at(0, 0))
			b.window(whole())
			b.sound()
			for i := range 3 * order {
				b.put(i, rc(5, 6, 7, 8))
				b.at(pt(0, 0))
				b.sound()
			}
			for i := range 3 * order {
				b.delete(i)
				b.at(pt(0, 0))
				b.sound()
			}
		}
	}
}

// alikes are lists of 60 rectangles that are alike: all of them one, points, on a line, one in another one.
func alikes() [][]api.Rect {
	var l [][]api.Rect
	for _, r := range []api.Rect{{}, rc(1, 2, 3, 4), at(m, m), at(-m, m), whole()} {
		l = append(l, slices.Repeat([]api.Rect{r}, 60))
	}
	var line, column, points, nested, corners []api.Rect
	for i := range int64(60) {
		line, column = append(line, rc(i*2, 7, i*2+3, 7)), append(column, rc(7, m-i*3-3, 7, m-i*3))
		points, nested = append(points, at(i%8, i/8)), append(nested, rc(-m+i, -m+i, m-i, m-i))
		corners = append(corners, at(m-2*m*(i%2), m-2*m*(i/2%2)))
	}
	return append(l, line, column, points, nested, corners)
}

// P14.2: alike rectangles, put in order and deleted in order, in the other order and in a drawn one.
func TestAlike(t *testing.T) {
	rnd := rand.New(rand.NewSource(141))
	for _, order := range orders() {
		for _, l := range alikes() {
			for how := range 3 {
				b := newBoth(t, order)
				for i, r := range l {
					b.put(i, r)
					b.sound()
				}
				b.all()
				for _, id := range inOrder(rnd, b.ids(), how) {
					b.delete(id)
					b.sound()
					b.window(l[id])
				}
			}
		}
	}
}

// inOrder are numbers as they stand (0), turned round (1), or in a drawn order (2).
func inOrder(rnd *rand.Rand, ids []int, how int) []int {
	switch how {
	case 1:
		slices.Reverse(ids)
	case 2:
		rnd.Shuffle(len(ids), func(i, j int) { ids[i], ids[j] = ids[j], ids[i] })
	}
	return ids
}

// P14.4: what was put is found at each corner and at an inner point, and not beside them, till it is deleted.
func TestFoundTillDeleted(t *testing.T) {
	rnd := rand.New(rand.NewSource(142))
	for _, order := range orders() {
		for how := range 3 {
			b := newBoth(t, order)
			l := newDrawn(rnd).rects(60)
			for i, r := range l {
				b.put(i, r)
				for id, r := range l {
					found(t, b, id, r, id <= i)
				}
			}
			gone := make([]bool, len(l))
			for _, id := range inOrder(rnd, b.ids(), how) {
				b.delete(id)
				gone[id] = true
				for other, r := range l {
					found(t, b, other, r, !gone[other])
				}
			}
		}
	}
}

// found fails if an item is found in its rectangle though it isn't there, or not found though it is.
func found(t *testing.T, b *both, id int, r api.Rect, is bool) {
	t.Helper()
	for _, p := range []api.Point{pt(r.X1, r.Y1), pt(r.X1, r.Y2), pt(r.X2, r.Y1), pt(r.X2, r.Y2), pt((r.X1+r.X2)/2, (r.Y1+r.Y2)/2)} {
		if slices.Contains(b.x.At(p), id) != is {
			t.Fatal(id, p, !is)
		}
	}
	for _, p := range []api.Point{pt(r.X1-1, r.Y1), pt(r.X1, r.Y1-1), pt(r.X2+1, r.Y2), pt(r.X2, r.Y2+1)} {
		if slices.Contains(b.x.At(p), id) {
			t.Fatal(id, p, "beside it")
		}
	}
	if slices.Contains(b.x.Window(r), id) != is {
		t.Fatal(id, r, !is)
	}
}

// What is told of items hangs on these alone: however they came to be there, and however wide the nodes are.
func TestHoweverTheyCame(t *testing.T) {
	rnd := rand.New(rand.NewSource(143))
	for range 20 {
		d := newDrawn(rnd)
		l := d.rects(80)
		var all []*both
		for _, order := range orders() {
			b := newBoth(t, order)
			for how, extra := range d.rects(80) {
				b.put(1000+how, extra)
			}
			for n, id := range inOrder(rnd, rising(80), order%3) {
				b.put(id, l[id])
				b.delete(1000 + (n*37)%80)
			}
			b.sound()
			all = append(all, b)
		}
		for range 30 {
			r := d.rect()
			p := pt(r.X1, r.Y2)
			for _, b := range all[1:] {
				if got, want := b.x.At(p), all[0].x.At(p); !slices.Equal(got, want) {
					t.Fatal(p, got, want)
				}
				if got, want := b.x.Window(r), all[0].x.Window(r); !slices.Equal(got, want) {
					t.Fatal(r, got, want)
				}
			}
		}
	}
}

// rising are the numbers from 0 on.
func rising(n int) []int {
	l := make([]int, n)
	for i := range l {
		l[i] = i
	}
	return l
}
