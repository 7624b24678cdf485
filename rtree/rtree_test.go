package rtree_test

import (
	"math"
	"slices"
	"testing"

	"plover/api"
	"plover/rtree"
)

// P14.1, New: ErrArg, if the order may not be, and no index; else one without items.
func TestNew(t *testing.T) {
	for _, order := range []int{math.MinInt, math.MinInt + 1, -16, -4, -1, 0, 1, 2, 3, 17, 18, 32, 260, 1<<32 + 4, math.MaxInt - 1, math.MaxInt} {
		if x, err := rtree.New(order); x != nil || err != api.ErrArg {
			t.Error(order, x, err)
		}
	}
	for _, order := range orders() {
		b := newBoth(t, order)
		b.all()
		b.get(0)
		b.get(-1)
		b.at(pt(0, 0))
		if len(b.x.Nodes()) != 1 {
			t.Error(order, b.x.Nodes())
		}
		b.delete(0)
		b.delete(1)
		b.all()
	}
}

// The example.
func TestExample(t *testing.T) {
	b := newBoth(t, 4)
	b.put(7, rc(0, 0, 2, 2))
	if l := b.x.At(pt(1, 2)); !slices.Equal(l, []int{7}) {
		t.Error(l)
	}
}

// P14.1: an index with one item.
func TestOneItem(t *testing.T) {
	for _, order := range orders() {
		for _, r := range []api.Rect{at(0, 0), rc(1, 2, 3, 4), at(m, m), at(-m, -m), whole()} {
			for _, id := range []int{0, 1, 1999, 2000, 1 << 40, math.MaxInt - 1, math.MaxInt} {
				b := newBoth(t, order)
				b.put(id, r)
				b.all()
				if n := b.x.Nodes(); len(n) != 1 || n[0].Level != 0 || n[0].Rect != r || !slices.Equal(n[0].Kids, []int{id}) {
					t.Error(n)
				}
				b.put(id, r)
				b.put(id, at(5, 5))
				b.all()
				b.delete(id)
				b.all()
				b.delete(id)
				b.all()
				b.put(id, at(5, 5))
				b.all()
			}
		}
	}
}

// P14.1: as many items as a node may have, and one more; and back again.
func TestOneNode(t *testing.T) {
	for _, order := range orders() {
		for _, step := range []int64{0, 1, 10} {
			b := newBoth(t, order)
			for i := range order {
				b.put(i, rc(int64(i)*step, 0, int64(i)*step+5, 5))
				b.all()
				if n := len(b.x.Nodes()); n != 1 {
					t.Error(order, i, n)
				}
			}
			b.put(order, at(100, 100))
			b.all()
			if n := b.x.Nodes(); len(n) != 3 || n[0].Level != 1 {
				t.Error(order, n)
			}
			for i := range order + 1 {
				b.delete(i)
				b.all()
			}
		}
	}
}

// P14.1: numbers in any order, far apart, with 0 and the greatest one.
func TestNumbers(t *testing.T) {
	ids := []int{5, 0, math.MaxInt, 3, 1 << 33, 1<<33 + 1, 1, 1 << 62, math.MaxInt - 1, 4, 2000, 1999, 1<<32 + 3, 1 << 31, 2}
	for _, order := range orders() {
		b := newBoth(t, order)
		for i, id := range ids {
			b.put(id, rc(int64(i), 0, int64(i)+2, 3))
			b.all()
		}
		for _, id := range []int{6, 1 << 32, 1<<33 + 2, math.MaxInt - 2, -1, -5, math.MinInt} {
			b.get(id)
			b.delete(id)
		}
		b.all()
		for _, id := range ids {
			b.delete(id)
			b.all()
		}
	}
}

// P14.1, Put: what is there already stays as it is.
func TestTwice(t *testing.T) {
	for _, order := range orders() {
		b := newBoth(t, order)
		for i := range 3 * order {
			b.put(i, rc(int64(i)*3, 0, int64(i)*3+4, 4))
		}
		for i := range 3 * order {
			b.put(i, b.items[i])
			b.put(i, at(m, m))
			b.put(i, whole())
		}
		b.all()
	}
}

// P14.1, Delete: one that is deleted is gone, twice deleted too; put in anew it stands elsewhere.
func TestAnew(t *testing.T) {
	for _, order := range orders() {
		b := newBoth(t, order)
		for i := range 4 * order {
			b.put(i, rc(int64(i%7)*10, int64(i/7)*10, int64(i%7)*10+9, int64(i/7)*10+9))
		}
		for i := range 4 * order {
			b.delete(i)
			b.delete(i)
			b.sound()
			b.put(i, rc(-int64(i)-3, -int64(i), -int64(i), 1))
			b.put(i, at(0, 0))
			b.sound()
		}
		b.all()
	}
}

// full is an index that has so many items as it may.
func full(t *testing.T, order int) *both {
	t.Helper()
	b := newBoth(t, order)
	for i := range 1998 {
		b.put(i, rc(int64(i%50)*10, int64(i/50)*10, int64(i%50)*10+9, int64(i/50)*10+9))
	}
	b.sound()
	for i := 1998; i < 2000; i++ {
		if err := b.put(i, rc(int64(i%50)*10, int64(i/50)*10, int64(i%50)*10+9, int64(i/50)*10+9)); err != nil {
			t.Fatal(i, err)
		}
		b.sound()
		b.window(whole())
	}
	return b
}

// P14.1, Put: 1999 and 2000 items, and one more; one that is there already, and one that may not be, come first.
func TestFull(t *testing.T) {
	for _, order := range orders() {
		b := full(t, order)
		for _, id := range []int{2000, 2001, math.MaxInt} {
			if err := b.put(id, at(0, 0)); err != api.ErrFull {
				t.Error(id, err)
			}
		}
		for _, id := range []int{0, 1, 1000, 1999} {
			if err := b.put(id, at(0, 0)); err != api.ErrTwice {
				t.Error(id, err)
			}
		}
		for _, id := range []int{-1, math.MinInt} {
			if err := b.put(id, at(0, 0)); err != api.ErrArg {
				t.Error(id, err)
			}
		}
		for _, id := range []int{0, 1999, 2000, math.MaxInt, -1} {
			if err := b.put(id, rc(1, 0, 0, 0)); err != api.ErrArg {
				t.Error(id, err)
			}
		}
		b.delete(2000)
		b.sound()
		b.window(whole())
		for _, id := range []int{7, 0, 1999} {
			b.delete(id)
			b.sound()
			if err := b.put(2000+id, rc(-5, -5, 5, 5)); err != nil {
				t.Error(id, err)
			}
			if err := b.put(id, at(0, 0)); err != api.ErrFull {
				t.Error(id, err)
			}
			b.sound()
			b.at(pt(0, 0))
			b.window(rc(0, 0, 20, 20))
		}
	}
}

// wrongRects are rectangles that may not be: a coordinate beyond, or sides crossed.
func wrongRects() []api.Rect {
	l := []api.Rect{
		rc(1, 0, 0, 0), rc(0, 1, 0, 0), rc(1, 1, 0, 0), rc(m, -m, -m, m), rc(-m, m, m, -m), rc(m, m, -m, -m),
		rc(m, 0, m-1, 0), rc(0, -m+1, 0, -m), rc(math.MinInt64, math.MinInt64, math.MaxInt64, math.MaxInt64),
	}
	for _, n := range []int64{math.MinInt64, math.MinInt64 + 1, -1 << 32, -2 * m, -m - 1, m + 1, 2 * m, 1 << 32, math.MaxInt64} {
		l = append(l, rc(n, 0, 0, 0), rc(0, n, 0, 0), rc(0, 0, n, 0), rc(0, 0, 0, n), rc(n, n, n, n))
		l = append(l, rc(-m, -m, n, n), rc(n, n, m, m), rc(n, -m, n, m), rc(-m, n, m, n))
	}
	return l
}

// P14.1, Put: ErrArg, if the rectangle may not be, or the number is below 0, whatever is there already; nothing is put then.
func TestWrongItems(t *testing.T) {
	for _, order := range []int{4, 9, 16} {
		for _, n := range []int{0, 1, order, order + 1, 40} {
			b := newBoth(t, order)
			for i := range n {
				b.put(i, rc(int64(i)*3, 0, int64(i)*3+4, 4))
			}
			for _, r := range wrongRects() {
				for _, id := range []int{0, n - 1, n, math.MaxInt, -1, math.MinInt} {
					if err := b.put(id, r); err != api.ErrArg {
						t.Fatal(id, r, err)
					}
				}
			}
			for _, id := range []int{-1, -2, -1 << 32, -1<<32 + 1, math.MinInt, math.MinInt + 1} {
				for _, r := range []api.Rect{{}, at(0, 0), whole(), rc(1, 2, 3, 4)} {
					if err := b.put(id, r); err != api.ErrArg {
						t.Fatal(id, r, err)
					}
				}
			}
			b.all()
		}
	}
}

// P14.1: two indexes have nothing of each other.
func TestTwoIndexes(t *testing.T) {
	one, other := newBoth(t, 4), newBoth(t, 4)
	for i := range 50 {
		one.put(i, at(int64(i), 0))
		other.all()
		one.put(i+50, at(int64(i), 1))
		other.put(i, at(0, int64(i)))
		other.delete(i - 3)
	}
	one.all()
	other.all()
}
