package table_test

import (
	"fmt"
	"slices"
	"testing"
	"unsafe"

	"plover/api"
	"plover/table"
)

// roomy is a region in memory that has more behind its points, of other ones.
func roomy(g api.Region, room int) api.Region {
	all := append(make([]api.Point, 0, len(g.Poly)+room), g.Poly...)
	for i := range room {
		all = append(all, pt(int64(i), 7))
	}
	g.Poly = all[:len(g.Poly)]
	return g
}

// wantRoomy fails if a region, or what stands behind its points, was changed.
func wantRoomy(t *testing.T, got, g api.Region, room int) {
	t.Helper()
	if got.Rect != g.Rect || len(got.Poly) != len(g.Poly) || !slices.Equal(got.Poly[:cap(got.Poly)], roomy(g, room).Poly[:len(g.Poly)+room]) {
		t.Fatal(g, "is changed to", got, got.Poly[:cap(got.Poly)])
	}
}

// asked are the numbers that the tests of memory ask for.
func asked() []int { return []int{1, 2, 3, 4} }

// told is all that a table tells at one time: all, and each by itself.
func told(x *table.Table) []api.Sub {
	l := x.Subs()
	for _, id := range asked() {
		if s, is := x.Get(id); is {
			l = append(l, s)
		}
	}
	return l
}

// kept is the same in new memory.
func kept(l []api.Sub) []api.Sub {
	var c []api.Sub
	for _, s := range l {
		s.Region = cloned(s.Region)
		c = append(c, s)
	}
	return c
}

// spoilSubs changes all of what was told, and what the lists could grow to; it fails if one changes with another one.
func spoilSubs(t *testing.T, l []api.Sub) {
	t.Helper()
	for i := range l {
		before := kept(l[i+1:])
		spoil(l[i].Region.Poly)
		_ = append(l[i].Region.Poly, pt(5, 5))
		if !slices.EqualFunc(before, l[i+1:], same) {
			t.Fatal("two of what is told share memory:", l)
		}
	}
	l = l[:cap(l)]
	for i := range l {
		l[i] = api.Sub{Id: -7, Filter: "spoiled", Region: shape(1, 2)}
	}
}

// shapes are polygons, and a rectangle, to be subscribed with.
func shapes() []api.Region {
	return []api.Region{shape(0, 0, 4, 0, 0, 4), {Poly: bowl(64)}, box(1, 2, 3, 4), shape(-9, -9, 5, -9, 5, 5, 0, 2, -9, 5)}
}

// withShapes is a table that has all of them, by the numbers that are asked for.
func withShapes(t *testing.T) *table.Table {
	t.Helper()
	x := newTable(t, 24, 4)
	for i, g := range shapes() {
		if _, err := x.Add(asked()[i], g, "true"); err != nil {
			t.Fatal(g, err)
		}
	}
	return x
}

// P19.4: what is told may change, and all that it could grow to: it changes no table, no other answer, no later one.
func TestToldMayChange(t *testing.T) {
	x, quiet := withShapes(t), withShapes(t)
	want := kept(told(quiet))
	check := func(what string) {
		t.Helper()
		if got := told(x); !slices.EqualFunc(got, want, same) {
			t.Fatal("behind", what, "it tells", got, "not", want)
		}
	}
	for range 3 {
		spoilSubs(t, append(told(x), told(x)...))
		check("asking")
		for _, id := range asked() {
			for _, d := range pts(1, 1, 0, 0, -1<<24, 5, 3, 1<<25) {
				s, _, err := x.Move(id, d)
				other, _, otherErr := quiet.Move(id, d)
				if err != nil || otherErr != nil {
					t.Fatal(id, d, err, otherErr)
				}
				want = kept(told(quiet))
				spoilSubs(t, append([]api.Sub{s, other}, told(x)...))
				check("a move")
			}
			s, err := x.Drop(id)
			other, otherErr := quiet.Drop(id)
			if err != nil || otherErr != nil || !same(s, other) {
				t.Fatal(id, s, other, err, otherErr)
			}
			want = kept(told(quiet))
			spoilSubs(t, append([]api.Sub{s}, told(x)...))
			check("a drop")
			g := shapes()[id-1]
			s, err = x.Add(id, g, "true")
			_, otherErr = quiet.Add(id, cloned(g), "true")
			if err != nil || otherErr != nil {
				t.Fatal(id, err, otherErr)
			}
			want = kept(told(quiet))
			spoilSubs(t, append([]api.Sub{s}, told(x)...))
			check("an add")
			if !slices.Equal(g.Poly, shapes()[id-1].Poly) {
				t.Fatal("what was handed in is changed with what was told:", g)
			}
		}
	}
}

// P19.4, R2: what was told stays as it is, whatever is done behind it.
func TestWhatWasToldStays(t *testing.T) {
	x := withShapes(t)
	var was, want []api.Sub
	keep := func(l ...api.Sub) {
		was, want = append(was, l...), append(want, kept(l)...)
	}
	for range 4 {
		for i, id := range asked() {
			keep(told(x)...)
			for _, d := range pts(1, 1, 0, 0, 1<<24, 0, -1<<26, -3, 2, 2) {
				s, _, err := x.Move(id, d)
				if err != nil {
					t.Fatal(id, d, err)
				}
				keep(s)
			}
			keep(told(x)...)
			s, err := x.Drop(id)
			if err != nil {
				t.Fatal(id, err)
			}
			keep(s)
			if s, err = x.Add(id, shapes()[(i+1)%4], "true"); err != nil {
				t.Fatal(id, err)
			}
			keep(s)
			if s, err := x.Add(id, shapes()[i], "true"); err != api.ErrTwice || !isZero(s) {
				t.Fatal(id, s, err)
			}
		}
	}
	if !slices.EqualFunc(was, want, same) {
		t.Error("what was told is now", was, "not", want)
	}
}

// R2: what is handed in isn't changed, nor is what stands behind it; and it may change behind the call.
func TestGivenMayChange(t *testing.T) {
	for _, room := range []int{0, 1, 3, 64, 100} {
		x := newTable(t, 24, 4)
		var given, all []api.Region
		for i, g := range shapes() {
			r := roomy(g, room)
			if _, err := x.Add(asked()[i], r, "true"); err != nil {
				t.Fatal(g, err)
			}
			if _, err := x.Add(asked()[i], r, "true"); err != api.ErrTwice {
				t.Fatal(g, err)
			}
			given, all = append(given, r), append(all, g)
		}
		before := kept(told(x))
		for i := range given {
			wantRoomy(t, given[i], all[i], room)
			spoil(given[i].Poly)
		}
		if got := told(x); !slices.EqualFunc(got, before, same) {
			t.Fatal("room", room, "changed to", got, "not", before)
		}
		// A point that is in each of them: where they stood counts, not what became of it.
		for i, p := range pts(1, 1, 1, 1, 2, 3, 0, 0) {
			if !x.Wants(asked()[i], api.Event{At: p}) {
				t.Error("room", room, all[i], "has no", p)
			}
		}
		for i := range given {
			// Back again, and then moved: nothing is moved where it was handed in.
			spoil(given[i].Poly)
			if _, _, err := x.Move(asked()[i], pt(-1<<24, 3)); err != nil {
				t.Fatal(all[i], err)
			}
			if _, err := x.Drop(asked()[i]); err != nil {
				t.Fatal(all[i], err)
			}
			wantRoomy(t, given[i], all[i], room)
		}
	}
}

// R2: a filter's text isn't kept: the memory that it had when it was handed in may be used anew.
func TestTextMayChange(t *testing.T) {
	memory := []byte(`b = "xyz"`)
	x := newTable(t, 24, 1)
	s, err := x.Add(1, box(0, 0, 4, 4), unsafe.String(&memory[0], len(memory)))
	if err != nil || s.Filter != `b = "xyz"` {
		t.Fatal(s, err)
	}
	copy(memory, `b = "abc"`)
	got, is := x.Get(1)
	if !is || got.Filter != `b = "xyz"` || s.Filter != `b = "xyz"` || x.Subs()[0].Filter != `b = "xyz"` {
		t.Error(s, got, is, x.Subs())
	}
	at := pt(1, 1)
	if !x.Wants(1, api.Event{At: at, Attrs: []api.Attr{text("b", "xyz")}}) || x.Wants(1, api.Event{At: at, Attrs: []api.Attr{text("b", "abc")}}) {
		t.Error("it wants by another text")
	}
}

// P19.4: no two of what is told have one text's memory, nor that which the table has.
func TestTextsAreNew(t *testing.T) {
	x := newTable(t, 24, 1)
	given := `b = "xyz"`
	one, err1 := x.Add(1, box(0, 0, 4, 4), given)
	two, _, err2 := x.Move(1, pt(1, 1))
	three, _ := x.Get(1)
	four := x.Subs()[0]
	five, err3 := x.Drop(1)
	if err1 != nil || err2 != nil || err3 != nil {
		t.Fatal(err1, err2, err3)
	}
	l := []string{given, one.Filter, two.Filter, three.Filter, four.Filter, five.Filter}
	for i := range l {
		for j := range i {
			if unsafe.StringData(l[i]) == unsafe.StringData(l[j]) || l[i] != l[j] {
				t.Error(i, j, l)
			}
		}
	}
}

// R2: what is asked, and what is refused, changes nothing that is told behind it.
func TestRefusedChangesNothing(t *testing.T) {
	x := withShapes(t)
	for _, id := range asked() {
		if _, _, err := x.Move(id, pt(1<<25, 7)); err != nil {
			t.Fatal(id, err)
		}
	}
	want := kept(told(x))
	for _, id := range append(asked(), 0, 9, -1, 1<<31) {
		x.Add(id, box(0, 0, 1, 1), "true")
		x.Add(id, box(1, 0, 0, 0), "true")
		x.Add(id, box(0, 0, 1, 1), "a <")
		x.Move(id, pt(m, m))
		x.Move(id, pt(m+1, 0))
		x.Wants(id, api.Event{At: pt(1<<25+1, 8)})
		if got := told(x); !slices.EqualFunc(got, want, same) {
			t.Fatal(id, "changed to", got, "not", want)
		}
	}
	for _, id := range []int{0, 9, -1, 1 << 31} {
		x.Drop(id)
	}
	if got := told(x); !slices.EqualFunc(got, want, same) {
		t.Fatal("changed to", got, "not", want)
	}
}

// R2: each table stands by itself: what is done to one changes no other one; and several may be used at once.
func TestApart(t *testing.T) {
	for i := range 8 {
		t.Run(fmt.Sprint(i), func(t *testing.T) {
			t.Parallel()
			b := newBoth(t, 24+i, 1+i)
			for n := range 30 {
				id := n * n % 5
				b.add(id, shapes()[n%4], filters()[n%9])
				b.move(id, pt(int64(n)<<20, -1))
				b.move(id+1, pt(0, int64(i)))
				if n%3 == 0 {
					b.drop((n + i) % 5)
				}
			}
		})
	}
}
