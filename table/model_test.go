package table_test

import (
	"math"
	"slices"
	"testing"

	"plover/api"
	"plover/eval"
	"plover/filter"
	"plover/region"
	"plover/table"
)

const m = api.MaxCoord

// pt is a point, or a move.
func pt(x, y int64) api.Point { return api.Point{X: x, Y: y} }

// pts are points, told by their coordinates.
func pts(ns ...int64) []api.Point {
	var l []api.Point
	for i := 0; i+1 < len(ns); i += 2 {
		l = append(l, pt(ns[i], ns[i+1]))
	}
	return l
}

// rc is a rectangle.
func rc(x1, y1, x2, y2 int64) api.Rect { return api.Rect{X1: x1, Y1: y1, X2: x2, Y2: y2} }

// box is a region of a rectangle alone.
func box(x1, y1, x2, y2 int64) api.Region { return api.Region{Rect: rc(x1, y1, x2, y2)} }

// shape is a region of a polygon alone, told by its coordinates.
func shape(ns ...int64) api.Region { return api.Region{Poly: pts(ns...)} }

// bowl are n points of a parabola: each of its turns is a left one, so it is simple, if it isn't too long.
func bowl(n int64) []api.Point {
	var l []api.Point
	for i := range n {
		l = append(l, pt(i, i*i))
	}
	return l
}

// same tells whether two subscriptions are the same, field by field; a list of no points is nil or empty.
func same(a, b api.Sub) bool {
	return a.Id == b.Id && a.Version == b.Version && a.Filter == b.Filter && a.Cover == b.Cover &&
		a.Region.Rect == b.Region.Rect && slices.Equal(a.Region.Poly, b.Region.Poly)
}

// isZero tells whether a subscription is a zero one.
func isZero(s api.Sub) bool { return same(s, api.Sub{}) }

// cloned is a region in new memory.
func cloned(g api.Region) api.Region {
	g.Poly = slices.Clone(g.Poly)
	return g
}

// spoil changes all points that a list has, and could grow to.
func spoil(l []api.Point) {
	l = l[:cap(l)]
	for i := range l {
		l[i] = pt(^l[i].X, ^l[i].Y)
	}
}

// slowBox is the least rectangle that has all points of a region that may be.
func slowBox(g api.Region) api.Rect {
	if len(g.Poly) == 0 {
		return g.Rect
	}
	var x, y []int64
	for _, p := range g.Poly {
		x, y = append(x, p.X), append(y, p.Y)
	}
	return rc(slices.Min(x), slices.Min(y), slices.Max(x), slices.Max(y))
}

// slowSpan goes from cell to cell, to the one that has a coordinate: its first one, and its last one.
func slowSpan(s int, n int64) (int64, int64) {
	size := int64(1) << s
	first := int64(-m)
	for first+size <= n {
		first += size
	}
	return first, min(first+size-1, m)
}

// slowCover is the rectangle of all cells that have a point of a region's box.
func slowCover(s int, g api.Region) api.Rect {
	r := slowBox(g)
	x1, _ := slowSpan(s, r.X1)
	y1, _ := slowSpan(s, r.Y1)
	_, x2 := slowSpan(s, r.X2)
	_, y2 := slowSpan(s, r.Y2)
	return rc(x1, y1, x2, y2)
}

// within tells whether numbers lie between two others.
func within(low, high int64, ns ...int64) bool {
	return low <= slices.Min(ns) && slices.Max(ns) <= high
}

// held tells whether a rectangle is all in another one, side by side.
func held(r, in api.Rect) bool {
	return within(in.X1, in.X2, r.X1, r.X2) && within(in.Y1, in.Y2, r.Y1, r.Y2)
}

// slowMove is a region that may be, moved; or false, if the move may not be, or what comes of it.
func slowMove(g api.Region, d api.Point) (api.Region, bool) {
	if !within(-m, m, d.X, d.Y) {
		return api.Region{}, false
	}
	moved := api.Region{}
	for _, p := range g.Poly {
		moved.Poly = append(moved.Poly, pt(p.X+d.X, p.Y+d.Y))
	}
	if len(g.Poly) == 0 {
		moved.Rect = rc(g.Rect.X1+d.X, g.Rect.Y1+d.Y, g.Rect.X2+d.X, g.Rect.Y2+d.Y)
	}
	return moved, held(slowBox(moved), rc(-m, -m, m, m))
}

// both is a table, and a plain list of its subscriptions that it has to be like.
type both struct {
	t           testing.TB
	shift, most int
	x           *table.Table
	list        []api.Sub   // in the order in which they came
	told        map[int]int // the greatest version that was told of each number
}

func newTable(t testing.TB, shift, most int) *table.Table {
	t.Helper()
	x, err := table.New(shift, most)
	if err != nil || x == nil {
		t.Fatal("shift", shift, "most", most, x, err)
	}
	return x
}

func newBoth(t testing.TB, shift, most int) *both {
	t.Helper()
	return &both{t: t, shift: shift, most: most, x: newTable(t, shift, most), told: map[int]int{}}
}

// raise makes it as if a number of which there is none had been dropped at a version.
func (b *both) raise(id, version int) {
	table.SetDropped(b.x, id, version)
	b.told[id] = version
}

// place is where a number stands in the list, or -1.
func (b *both) place(id int) int {
	return slices.IndexFunc(b.list, func(s api.Sub) bool { return s.Id == id })
}

// want fails if a call didn't answer just what it should: with an error it is a zero one. Then it spoils what was told,
// and holds all else that the table tells against the list.
func (b *both) want(what string, id int, got api.Sub, err error, want api.Sub, wantErr error) {
	b.t.Helper()
	if wantErr != nil {
		want = api.Sub{}
	}
	if err != wantErr || !same(got, want) {
		b.t.Fatalf("%s of %d: %v, %v, not %v, %v", what, id, got, err, want, wantErr)
	}
	spoil(got.Region.Poly)
	b.all()
}

// add adds one, and fails if the answer isn't by the words of P19.1.
func (b *both) add(id int, g api.Region, f string) error {
	b.t.Helper()
	_, errRead := filter.Read(f)
	var want error
	switch {
	case id < 0 || id > 1<<31-1 || !region.May(g):
		want = api.ErrArg
	case errRead != nil:
		want = errRead
	case b.place(id) >= 0:
		want = api.ErrTwice
	case len(b.list) == b.most || b.told[id] > 1<<31-3:
		want = api.ErrFull
	}
	s := api.Sub{}
	if want == nil {
		b.told[id]++
		s = api.Sub{Id: id, Version: b.told[id], Region: cloned(g), Filter: f, Cover: slowCover(b.shift, g)}
		b.list = append(b.list, s)
	}
	given := cloned(g)
	got, err := b.x.Add(id, given, f)
	if given.Rect != g.Rect || !slices.Equal(given.Poly, g.Poly) {
		b.t.Fatal("add changed", g, "to", given)
	}
	spoil(given.Poly)
	b.want("add", id, got, err, s, want)
	return err
}

// move moves one, and fails if the answer isn't by the words of P19.2.
func (b *both) move(id int, d api.Point) (bool, error) {
	b.t.Helper()
	s, safe, want := b.moved(id, d)
	if want == nil {
		b.told[id] = s.Version
		b.list[b.place(id)] = s
	}
	got, gotSafe, err := b.x.Move(id, d)
	if gotSafe != safe {
		b.t.Fatal("move of", id, "by", d, "is safe:", gotSafe, got, err)
	}
	b.want("move", id, got, err, s, want)
	return gotSafe, err
}

// moved is what a move should answer.
func (b *both) moved(id int, d api.Point) (api.Sub, bool, error) {
	i := b.place(id)
	if i < 0 {
		return api.Sub{}, false, api.ErrNone
	}
	s := b.list[i]
	g, ok := slowMove(s.Region, d)
	if !ok {
		return api.Sub{}, false, api.ErrRange
	}
	s.Region = g
	if held(slowBox(g), s.Cover) {
		return s, true, nil
	}
	if s.Version > 1<<31-3 {
		return api.Sub{}, false, api.ErrFull
	}
	s.Version++
	s.Cover = slowCover(b.shift, g)
	return s, false, nil
}

// drop drops one, and fails if the answer isn't by the words of P19.2.
func (b *both) drop(id int) error {
	b.t.Helper()
	s, want := api.Sub{}, error(api.ErrNone)
	if i := b.place(id); i >= 0 {
		s, want = b.list[i], nil
		s.Version++
		b.told[id] = s.Version
		b.list = slices.Delete(b.list, i, i+1)
	}
	got, err := b.x.Drop(id)
	b.want("drop", id, got, err, s, want)
	return err
}

// get fails if one isn't the list's, or is there though it is not in the list.
func (b *both) get(id int) {
	b.t.Helper()
	want, wantIs := api.Sub{}, false
	if i := b.place(id); i >= 0 {
		want, wantIs = b.list[i], true
	}
	got, is := b.x.Get(id)
	if is != wantIs || !same(got, want) {
		b.t.Fatalf("get of %d: %v, %v, not %v, %v", id, got, is, want, wantIs)
	}
	spoil(got.Region.Poly)
}

// subs fails if all of them aren't the list's, by rising numbers.
func (b *both) subs() {
	b.t.Helper()
	want := slices.SortedFunc(slices.Values(b.list), func(x, y api.Sub) int { return x.Id - y.Id })
	got := b.x.Subs()
	if !slices.EqualFunc(got, want, same) {
		b.t.Fatal("subs:", got, "not", want)
	}
	for i := range got {
		spoil(got[i].Region.Poly)
		got[i] = api.Sub{Id: -5}
	}
}

// wants fails if a subscription wants an event that it shouldn't, or doesn't want one that it should.
func (b *both) wants(id int, e api.Event) bool {
	b.t.Helper()
	want := false
	if i := b.place(id); i >= 0 {
		f, err := filter.Read(b.list[i].Filter)
		want = err == nil && region.In(b.list[i].Region, e.At) && eval.Holds(f, e.Attrs)
	}
	before := slices.Clone(e.Attrs)
	if got := b.x.Wants(id, e); got != want || !slices.Equal(e.Attrs, before) {
		b.t.Fatal(id, "wants", e, got, "in", b.list)
	}
	return want
}

// all holds all that the table tells of its numbers, and of some others, against the list.
func (b *both) all() {
	b.t.Helper()
	b.subs()
	for id := range b.told {
		b.get(id)
	}
	for _, id := range []int{0, 1, 4, -1, 1<<31 - 1, 1 << 31, math.MinInt, math.MaxInt} {
		b.get(id)
	}
	for _, s := range b.list[max(0, len(b.list)-3):] {
		r := slowBox(s.Region)
		for _, p := range pts(r.X1, r.Y1, r.X2, r.Y2, r.X1, r.Y2, r.X1-1, r.Y1, r.X1, r.Y2+1, r.X1+(r.X2-r.X1)/2, r.Y1+(r.Y2-r.Y1)/2) {
			b.wants(s.Id, api.Event{At: p, Attrs: attrs()[int(uint64(p.X+p.Y)%uint64(len(attrs())))]})
			b.wants(s.Id+1, api.Event{At: p})
		}
	}
}

// number is an attribute that is a number.
func number(name string, n int64) api.Attr { return api.Attr{Name: name, N: n} }

// text is an attribute that is a text.
func text(name, s string) api.Attr { return api.Attr{Name: name, Text: true, S: s} }

// attrs are lists of attributes.
func attrs() [][]api.Attr {
	return [][]api.Attr{
		nil, {}, {number("a", 4)}, {number("a", 5)}, {text("b", "x")}, {text("b", "xy"), number("a", 4)}, {number("b", 1)}, {text("a", "4")},
		{number("a", 4), number("a", 5)}, {number("a", 5), number("a", 4)}, {number("c", 0), text("d", ""), number("a", 4)},
	}
}

// filters are texts of filters that may be.
func filters() []string {
	return []string{"true", "not true", "a < 5", `b = "x"`, `b ^= "x"`, "a in (4, 7)", `a<5 and(b="x"or not c in(1))`, "  not   a = 4 ", "not not a >= 5"}
}
