package rtree_test

import (
	"math/rand"
	"slices"
	"testing"

	"plover/api"
	"plover/rtree"
)

// told is all that an index told at one time.
type told struct {
	lists [][]int
	nodes []api.Node
}

// tell asks an index for some windows, the points at their corners, and its nodes.
func tell(x *rtree.Tree, windows []api.Rect) told {
	var a told
	for _, r := range windows {
		a.lists = append(a.lists, x.Window(r), x.At(pt(r.X1, r.Y1)), x.At(pt(r.X2, r.Y2)))
	}
	a.nodes = x.Nodes()
	return a
}

// copied is the same in new memory.
func (a told) copied() told {
	var c told
	for _, l := range a.lists {
		c.lists = append(c.lists, slices.Clone(l))
	}
	for _, n := range a.nodes {
		n.Kids = slices.Clone(n.Kids)
		c.nodes = append(c.nodes, n)
	}
	return c
}

// same tells whether two times the same was told.
func (a told) same(b told) bool {
	return slices.EqualFunc(a.lists, b.lists, slices.Equal[[]int]) && slices.EqualFunc(a.nodes, b.nodes, func(x, y api.Node) bool {
		return x.Level == y.Level && x.Rect == y.Rect && slices.Equal(x.Kids, y.Kids)
	})
}

// spoil changes all that a list has, and could grow to.
func spoil(l []int) {
	l = l[:cap(l)]
	for i := range l {
		l[i] = -1 - l[i]
	}
}

// spoil changes all of it, and fails if one of its lists changes with another one.
func (a told) spoil(t *testing.T) {
	t.Helper()
	lists := slices.Clone(a.lists)
	for _, n := range a.nodes {
		lists = append(lists, n.Kids)
	}
	for i, l := range lists {
		before := told{lists: lists[i+1:]}.copied()
		spoil(l)
		if !before.same(told{lists: lists[i+1:]}) {
			t.Fatal("two lists share memory")
		}
	}
	nodes := a.nodes[:cap(a.nodes)]
	for i := range nodes {
		nodes[i] = api.Node{Level: 77, Rect: rc(1, 2, 3, 4), Kids: []int{-1}}
	}
}

// P14.3: what is told is new memory: changed, it changes nothing that was told, is told, or will be told behind later puts and deletes.
func TestWhatIsToldIsNew(t *testing.T) {
	rnd := rand.New(rand.NewSource(145))
	for _, order := range orders() {
		for range 6 {
			d, b, untouched := newDrawn(rnd), newBoth(t, order), newBoth(t, order)
			windows := append(d.rects(5), whole())
			for i := range 120 {
				r, gone := d.rect(), rnd.Intn(120)
				for _, x := range []*both{b, untouched} {
					x.put(i, r)
					x.delete(gone)
				}
				if i%10 > 0 {
					continue
				}
				first, second := tell(b.x, windows), tell(b.x, windows)
				want := first.copied()
				first.spoil(t)
				if !second.same(want) {
					t.Fatal("two answers share memory")
				}
				if !tell(b.x, windows).same(want) || !tell(untouched.x, windows).same(want) {
					t.Fatal("a later answer is another one")
				}
				second.spoil(t)
				b.all()
			}
		}
	}
}

// R2: what was told stays as it is, whatever is done behind it.
func TestWhatWasToldStays(t *testing.T) {
	rnd := rand.New(rand.NewSource(146))
	for _, order := range orders() {
		d, b := newDrawn(rnd), newBoth(t, order)
		windows := append(d.rects(5), whole())
		var was, want []told
		for range 300 {
			b.step(rnd, d, 100, 60)
			if rnd.Intn(10) == 0 {
				was = append(was, tell(b.x, windows))
				want = append(want, was[len(was)-1].copied())
			}
		}
		for _, id := range b.ids() {
			b.delete(id)
		}
		for i := range was {
			if !was[i].same(want[i]) {
				t.Fatal("what was told is now", was[i])
			}
		}
	}
}

// What is asked, and what is refused, changes nothing: the nodes are as if it had never been.
func TestAskingChangesNothing(t *testing.T) {
	rnd := rand.New(rand.NewSource(147))
	for _, order := range orders() {
		d, asked, quiet := newDrawn(rnd), newBoth(t, order), newBoth(t, order)
		for i := range 100 {
			r := d.rect()
			asked.put(i, r)
			quiet.x.Put(api.Item{Rect: r, Id: i})
			asked.put(i, whole())
			asked.put(-1, r)
			asked.put(i+1, rc(1, 0, 0, 0))
			asked.delete(i + 1)
			if i%3 == 0 {
				asked.delete(i / 2)
				quiet.x.Delete(i / 2)
			}
			if i%20 == 0 {
				asked.all()
			}
		}
		if a, b := (told{nodes: asked.x.Nodes()}), (told{nodes: quiet.x.Nodes()}); !a.same(b) {
			t.Error(order, a, b)
		}
	}
}
