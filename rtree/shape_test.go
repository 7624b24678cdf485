package rtree_test

import (
	"math/rand"
	"slices"
	"testing"

	"plover/api"
	"plover/rect"
	"plover/rsplit"
)

// leaves are the items' numbers of each node at level 0, rising, as these stand.
func leaves(nodes []api.Node) [][]int {
	var l [][]int
	for _, n := range nodes {
		if n.Level == 0 {
			l = append(l, slices.Sorted(slices.Values(n.Kids)))
		}
	}
	return l
}

// A root that has too many is split as layer 13 tells.
func TestSplitByLayer13(t *testing.T) {
	rnd := rand.New(rand.NewSource(148))
	for _, order := range orders() {
		for range 50 {
			d, b := newDrawn(rnd), newBoth(t, order)
			l := d.rects(order + 1)
			for i, r := range l {
				b.put(i, r)
			}
			one, other, err := rsplit.Split(l, (order+1)*2/5)
			slices.Sort(one)
			slices.Sort(other)
			if got := leaves(b.x.Nodes()); err != nil || len(got) != 2 || !slices.Equal(got[0], one) || !slices.Equal(got[1], other) {
				t.Fatal(order, l, got, one, other, err)
			}
		}
	}
}

// chosen is the place of the node at level 0 that layer 13 chooses for a rectangle, from the root on.
func chosen(t *testing.T, nodes []api.Node, r api.Rect) int {
	t.Helper()
	i := 0
	for nodes[i].Level > 0 {
		var l []api.Rect
		for _, k := range nodes[i].Kids {
			l = append(l, nodes[k].Rect)
		}
		place, err := rsplit.Choose(l, r, nodes[i].Level == 1)
		if err != nil {
			t.Fatal(err)
		}
		i = nodes[i].Kids[place]
	}
	return i
}

// The node that layer 13 chooses, level by level, takes an item in; if it has room, all else stays as it was.
func TestChosenByLayer13(t *testing.T) {
	rnd := rand.New(rand.NewSource(150))
	for _, order := range orders() {
		for range 5 {
			d, b := newDrawn(rnd), newBoth(t, order)
			for id := range 400 {
				r, before := d.rect(), b.x.Nodes()
				i := chosen(t, before, r)
				b.put(id, r)
				if len(before[i].Kids) == order {
					continue
				}
				after := b.x.Nodes()
				if len(after) != len(before) || !slices.Contains(after[i].Kids, id) {
					t.Fatal(order, id, r, before, after)
				}
			}
		}
	}
}

// A node that has too many and isn't the root puts its farthest item in anew first: here the other one has come near,
// and takes it, so that none is split.
func TestFarthestIsPutInAnew(t *testing.T) {
	b := newBoth(t, 4)
	for i, x := range []struct{ low, high int64 }{{0, 1}, {2, 3}, {20, 21}, {22, 23}, {40, 41}, {12, 13}, {3, 8}} {
		b.put(i, rc(x.low, 0, x.high, 1))
	}
	if got := leaves(b.x.Nodes()); len(got) != 2 || !slices.Equal(got[0], []int{0, 1, 6}) || !slices.Equal(got[1], []int{2, 3, 4, 5}) {
		t.Fatal(got)
	}
	b.put(7, rc(36, 0, 42, 1))
	if got := leaves(b.x.Nodes()); len(got) != 2 || !slices.Equal(got[0], []int{0, 1, 5, 6}) || !slices.Equal(got[1], []int{2, 3, 4, 7}) {
		t.Fatal(got)
	}
	b.all()
}

// A node that has too few is gone, and its items are put in anew: of two nodes just one is left then, which is the root.
func TestTooFewArePutInAnew(t *testing.T) {
	for _, order := range orders() {
		b := newBoth(t, order)
		for i := range order + 1 {
			b.put(i, at(int64(i), 0))
		}
		for len(b.x.Nodes()) == 3 {
			b.delete(b.x.Nodes()[1].Kids[0])
			b.sound()
		}
		if n := len(b.items); n <= order/2 || len(b.x.Nodes()) != 1 {
			t.Error(order, n, b.x.Nodes())
		}
		b.all()
	}
}

// looked is how many of the nodes have a point, so that At has to look into them.
func looked(nodes []api.Node, p api.Point) int {
	n := 0
	for _, x := range nodes {
		if rect.In(x.Rect, p) {
			n++
		}
	}
	return n
}

// Items that lie apart are found by few nodes of each level, however they came, and however many were deleted.
func TestFewAreLookedAt(t *testing.T) {
	rnd := rand.New(rand.NewSource(149))
	for _, order := range orders() {
		for how := range 3 {
			b := newBoth(t, order)
			for _, id := range inOrder(rnd, rising(1600), how) {
				x, y := int64(id%40)*10, int64(id/40)*10
				b.put(id, rc(x, y, x+8, y+8))
			}
			b.fewAreLookedAt()
			for _, id := range inOrder(rnd, rising(1600), 2)[:1200] {
				b.delete(id)
			}
			b.fewAreLookedAt()
		}
	}
}

// fewAreLookedAt fails if two of each level have to be looked into, by and large, or if there are too many levels: each
// has half the nodes at most that the one below it has.
func (b *both) fewAreLookedAt() {
	b.t.Helper()
	nodes := b.x.Nodes()
	levels := nodes[0].Level + 1
	if 1<<levels > len(b.items) {
		b.t.Errorf("order %d: %d levels of %d items", b.order, levels, len(b.items))
	}
	all := 0
	for _, r := range b.items {
		all += looked(nodes, pt(r.X1+4, r.Y1+4))
	}
	if all > 2*levels*len(b.items) {
		b.t.Errorf("order %d: %d levels, %d items, %d nodes looked into", b.order, levels, len(b.items), all)
	}
}
