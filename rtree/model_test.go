package rtree_test

import (
	"math/rand"
	"slices"
	"testing"

	"plover/api"
	"plover/rtree"
)

const m = api.MaxCoord

// rc is a rectangle.
func rc(x1, y1, x2, y2 int64) api.Rect { return api.Rect{X1: x1, Y1: y1, X2: x2, Y2: y2} }

// at is a rectangle of one point.
func at(x, y int64) api.Rect { return rc(x, y, x, y) }

// pt is a point.
func pt(x, y int64) api.Point { return api.Point{X: x, Y: y} }

// whole is the greatest rectangle that may be.
func whole() api.Rect { return rc(-m, -m, m, m) }

// orders are all that may be.
func orders() []int { return []int{4, 5, 6, 7, 8, 9, 10, 11, 12, 13, 14, 15, 16} }

// both is an index, and a plain list of its items that it has to be like.
type both struct {
	t     testing.TB
	order int
	x     *rtree.Tree
	items map[int]api.Rect
}

func newBoth(t testing.TB, order int) *both {
	t.Helper()
	x, err := rtree.New(order)
	if err != nil || x == nil {
		t.Fatal(order, x, err)
	}
	return &both{t, order, x, map[int]api.Rect{}}
}

// may tells whether a rectangle may be.
func may(r api.Rect) bool {
	for _, n := range []int64{r.X1, r.Y1, r.X2, r.Y2} {
		if n < -m || n > m {
			return false
		}
	}
	return r.X1 <= r.X2 && r.Y1 <= r.Y2
}

// meet tells whether two rectangles that may be have a point in common: neither one lies all to one side of the other one.
func meet(a, b api.Rect) bool {
	return !(a.X2 < b.X1 || b.X2 < a.X1 || a.Y2 < b.Y1 || b.Y2 < a.Y1)
}

// put puts an item, and fails if the answer isn't the list's.
func (b *both) put(id int, r api.Rect) error {
	b.t.Helper()
	_, is := b.items[id]
	var want error
	switch {
	case !may(r) || id < 0:
		want = api.ErrArg
	case is:
		want = api.ErrTwice
	case len(b.items) == 2000:
		want = api.ErrFull
	default:
		b.items[id] = r
	}
	if err := b.x.Put(api.Item{Rect: r, Id: id}); err != want {
		b.t.Fatalf("put %d, %v: %v, not %v", id, r, err, want)
	}
	b.get(id)
	return want
}

// delete deletes an item, and fails if the answer isn't the list's.
func (b *both) delete(id int) error {
	b.t.Helper()
	_, is := b.items[id]
	var want error
	if !is {
		want = api.ErrNone
	}
	delete(b.items, id)
	if err := b.x.Delete(id); err != want {
		b.t.Fatalf("delete %d: %v, not %v", id, err, want)
	}
	b.get(id)
	return want
}

// get fails if an item, or how many there are, isn't the list's.
func (b *both) get(id int) {
	b.t.Helper()
	want, wantIs := b.items[id]
	if r, is := b.x.Get(id); r != want || is != wantIs {
		b.t.Fatalf("get %d: %v, %v, not %v, %v", id, r, is, want, wantIs)
	}
	if n := b.x.Len(); n != len(b.items) {
		b.t.Fatalf("%d items, not %d", n, len(b.items))
	}
}

// ids are the numbers of all items, rising.
func (b *both) ids() []int {
	var l []int
	for id := range b.items {
		l = append(l, id)
	}
	slices.Sort(l)
	return l
}

// those are the numbers of the items whose rectangles meet one, rising.
func (b *both) those(r api.Rect) []int {
	var l []int
	for id, other := range b.items {
		if meet(other, r) {
			l = append(l, id)
		}
	}
	slices.Sort(l)
	return l
}

// at fails if others have a point than in the list: a point that may not be is in none.
func (b *both) at(p api.Point) {
	b.t.Helper()
	var want []int
	if r := at(p.X, p.Y); may(r) {
		want = b.those(r)
	}
	if got := b.x.At(p); !slices.Equal(got, want) {
		b.t.Fatalf("at %v: %v, not %v", p, got, want)
	}
}

// window fails if others meet a rectangle than in the list.
func (b *both) window(r api.Rect) {
	b.t.Helper()
	var want []int
	if may(r) {
		want = b.those(r)
	}
	if got := b.x.Window(r); !slices.Equal(got, want) {
		b.t.Fatalf("window %v: %v, not %v", r, got, want)
	}
}

// sound fails if the nodes aren't those of a sound index of the list's items.
func (b *both) sound() {
	b.t.Helper()
	if what := fault(b.x.Nodes(), b.order, b.items); what != "" {
		b.t.Fatalf("order %d: %s: %v of %v", b.order, what, b.x.Nodes(), b.items)
	}
}

// around are the points of a rectangle's corners, of its middle, and those that lie beside them.
func around(r api.Rect) []api.Point {
	var l []api.Point
	for _, x := range []int64{r.X1 - 1, r.X1, r.X1 + (r.X2-r.X1)/2, r.X2, r.X2 + 1} {
		for _, y := range []int64{r.Y1 - 1, r.Y1, r.Y1 + (r.Y2-r.Y1)/2, r.Y2, r.Y2 + 1} {
			l = append(l, pt(x, y))
		}
	}
	return l
}

// all holds all that the index tells against the list, with the points and windows about each item.
func (b *both) all() {
	b.t.Helper()
	b.sound()
	b.window(whole())
	for _, id := range b.ids() {
		b.get(id)
		r := b.items[id]
		b.window(r)
		b.window(rc(r.X2, r.Y2, m, m))
		for _, p := range around(r) {
			b.at(p)
		}
	}
}

// fault is what keeps nodes from being a sound index of such items; nothing, if they are one.
func fault(nodes []api.Node, order int, items map[int]api.Rect) string {
	if len(nodes) == 0 {
		return "there is no root"
	}
	parents := make([]int, len(nodes))
	told := map[int]int{}
	for i, n := range nodes {
		if what := faultOfCount(n, i == 0, order, len(items)); what != "" {
			return what
		}
		var l []api.Rect
		for _, k := range n.Kids {
			if n.Level == 0 {
				r, is := items[k]
				if !is {
					return "an item is none"
				}
				told[k]++
				l = append(l, r)
				continue
			}
			if k <= i || k >= len(nodes) {
				return "a kid stands ahead of its node, or nowhere"
			}
			if nodes[k].Level != n.Level-1 {
				return "a kid is at another level"
			}
			parents[k]++
			l = append(l, nodes[k].Rect)
		}
		if n.Rect != hull(l) {
			return "a node's rectangle isn't the least one"
		}
	}
	for i, n := range parents {
		if n != min(i, 1) {
			return "a node but the root isn't the kid of one, or the root is"
		}
	}
	for id := range items {
		if told[id] != 1 {
			return "an item isn't told once"
		}
	}
	return ""
}

// faultOfCount is what is wrong with a node's level, or with how many kids it has, of an index of so many items.
func faultOfCount(n api.Node, root bool, order, items int) string {
	switch {
	case n.Level < 0:
		return "a level is below 0"
	case len(n.Kids) > order:
		return "a node has too many kids"
	case !root && (len(n.Kids) < order/4 || len(n.Kids) < 1):
		return "a node has too few kids"
	case root && n.Level > 0 && len(n.Kids) < 2:
		return "the root has too few kids"
	case root && items == 0 && (n.Level != 0 || n.Rect != api.Rect{}):
		return "an index without items isn't one node of level 0 with a zero rectangle"
	}
	return ""
}

// hull is the least rectangle that holds some, by their sides put in order; a zero one of none.
func hull(l []api.Rect) api.Rect {
	if len(l) == 0 {
		return api.Rect{}
	}
	var x, y []int64
	for _, r := range l {
		x, y = append(x, r.X1, r.X2), append(y, r.Y1, r.Y2)
	}
	return rc(slices.Min(x), slices.Min(y), slices.Max(x), slices.Max(y))
}

// pools are few sides, and more, small ones and the greatest that may be.
func pools() [][]int64 {
	return [][]int64{
		{0}, {0, 1}, {0, 1, 2}, {-5, -2, 0, 1, 4, 7}, {0, 1, 2, 3, 4, 5, 6, 7, 8, 9, 10, 11, 12, 13, 14, 15, 16, 17, 18, 19},
		{-m, m}, {-m, 0, m}, {-m, -m + 1, m - 1, m}, {-m, -m / 3, -1, 0, 1, m / 3, m / 2, m - 1, m},
	}
}

// drawn draws rectangles of one kind: of few different sides, or of any; points, or such as lie on a line, at times.
type drawn struct {
	rnd         *rand.Rand
	sides       []int64 // none: any
	small       int64   // how long a side is at most, if any may be
	point, line bool
}

func newDrawn(rnd *rand.Rand) drawn {
	d := drawn{rnd: rnd, small: 1 + rnd.Int63n(1<<(1+rnd.Intn(30))), point: rnd.Intn(5) == 0, line: rnd.Intn(5) == 0}
	if rnd.Intn(3) > 0 {
		d.sides = pools()[rnd.Intn(len(pools()))]
	}
	return d
}

// span are two sides, in order.
func (d drawn) span() (int64, int64) {
	if d.sides == nil {
		low := d.rnd.Int63n(2*m+1) - m
		return low, min(low+d.rnd.Int63n(d.small), m)
	}
	a, b := d.sides[d.rnd.Intn(len(d.sides))], d.sides[d.rnd.Intn(len(d.sides))]
	return min(a, b), max(a, b)
}

func (d drawn) rect() api.Rect {
	var r api.Rect
	r.X1, r.X2 = d.span()
	r.Y1, r.Y2 = d.span()
	if d.line {
		r.Y1, r.Y2 = 0, 0
	}
	if d.point {
		r.X2, r.Y2 = r.X1, r.Y1
	}
	return r
}

// rects are n of them.
func (d drawn) rects(n int) []api.Rect {
	var l []api.Rect
	for range n {
		l = append(l, d.rect())
	}
	return l
}
