package rtree_test

import (
	"math/rand"
	"slices"
	"strconv"
	"testing"

	"plover/api"
)

// The tests' own look at nodes finds each fault that there may be.
func TestFaults(t *testing.T) {
	items := map[int]api.Rect{3: rc(0, 0, 1, 1), 5: rc(2, 0, 3, 1), 7: rc(8, 8, 9, 9), 9: rc(7, 7, 8, 8)}
	right := func() []api.Node {
		return []api.Node{
			{Level: 1, Rect: rc(0, 0, 9, 9), Kids: []int{1, 2}},
			{Level: 0, Rect: rc(0, 0, 3, 1), Kids: []int{3, 5}},
			{Level: 0, Rect: rc(7, 7, 9, 9), Kids: []int{9, 7}},
		}
	}
	if what := fault(right(), 8, items); what != "" {
		t.Error(what)
	}
	for i, spoil := range []func(l []api.Node) []api.Node{
		func(l []api.Node) []api.Node { return nil },
		func(l []api.Node) []api.Node { return l[:2] },
		func(l []api.Node) []api.Node { return l[1:] },
		func(l []api.Node) []api.Node { return append(l, l[2]) },
		func(l []api.Node) []api.Node { l[0].Kids = []int{1}; return l },
		func(l []api.Node) []api.Node { l[0].Kids = []int{1, 1}; return l },
		func(l []api.Node) []api.Node { l[0].Kids = []int{1, 2, 2}; return l },
		func(l []api.Node) []api.Node { l[0].Kids = []int{0, 1, 2}; return l },
		func(l []api.Node) []api.Node { l[0].Kids = []int{1, 3}; return l },
		func(l []api.Node) []api.Node { l[0].Level = 2; return l },
		func(l []api.Node) []api.Node { l[2].Level = -1; return l },
		func(l []api.Node) []api.Node { l[1].Level = 1; return l },
		func(l []api.Node) []api.Node { l[0].Rect = rc(0, 0, 9, 10); return l },
		func(l []api.Node) []api.Node { l[1].Rect = rc(0, 0, 2, 1); return l },
		func(l []api.Node) []api.Node { l[2].Rect = api.Rect{}; return l },
		func(l []api.Node) []api.Node { l[2].Kids = []int{7, 7, 9}; return l },
		func(l []api.Node) []api.Node { l[2].Kids = []int{7, 8}; return l },
		func(l []api.Node) []api.Node { l[2].Kids = []int{9, 7, 3}; l[2].Rect = rc(0, 0, 9, 9); return l },
		func(l []api.Node) []api.Node { l[2].Kids = []int{9}; l[2].Rect = rc(7, 7, 8, 8); return l },
		func(l []api.Node) []api.Node { l[2].Kids = nil; l[2].Rect = api.Rect{}; return l },
	} {
		if what := fault(spoil(right()), 8, items); what == "" {
			t.Error(i, "no fault was found")
		}
	}
	if what := fault([]api.Node{{Kids: []int{3, 5, 7, 9}, Rect: rc(0, 0, 9, 9)}}, 3, items); what == "" {
		t.Error("four kids of three")
	}
	if what := fault(append(right(), api.Node{}), 16, nil); what == "" {
		t.Error("nodes, but no items")
	}
	if what := fault([]api.Node{{Rect: at(1, 1)}}, 4, nil); what == "" {
		t.Error("no items, but a rectangle")
	}
	if what := fault([]api.Node{{}}, 4, nil); what != "" {
		t.Error(what)
	}
}

// step puts or deletes a drawn item, at times one that is there already, or isn't there.
func (b *both) step(rnd *rand.Rand, d drawn, numbers, puts int) {
	b.t.Helper()
	id := rnd.Intn(numbers)
	if rnd.Intn(100) < puts {
		b.put(id, d.rect())
		return
	}
	if len(b.items) > 0 && rnd.Intn(3) > 0 {
		ids := b.ids()
		id = ids[rnd.Intn(len(ids))]
	}
	b.delete(id)
}

// P14.2, P14.3: At and Window against the list, and the nodes against each sentence of what is sound, after each of many
// drawn puts and deletes, of each order.
func TestDrawn(t *testing.T) {
	for _, order := range orders() {
		t.Run(strconv.Itoa(order), func(t *testing.T) {
			t.Parallel()
			rnd := rand.New(rand.NewSource(int64(1400 + order)))
			highest := 0
			for range 12 {
				d, b := newDrawn(rnd), newBoth(t, order)
				numbers := 1 + rnd.Intn(300)
				for i := range 400 {
					// It grows, shrinks, and grows again.
					b.step(rnd, d, numbers, []int{90, 10, 60, 40, 80}[i/80])
					b.sound()
					r := d.rect()
					b.at(pt(r.X1, r.Y1))
					b.window(r)
					highest = max(highest, b.x.Nodes()[0].Level)
				}
				b.all()
			}
			if highest < 1 || highest < 2 && order < 9 {
				t.Error("nodes were at level", highest, "at most")
			}
		})
	}
}

// P14.3: all of them are deleted in the order they were put, in the other one, and in a drawn one.
func TestDeleteAll(t *testing.T) {
	for _, order := range orders() {
		t.Run(strconv.Itoa(order), func(t *testing.T) {
			t.Parallel()
			rnd := rand.New(rand.NewSource(int64(1420 + order)))
			for how := range 3 {
				for _, n := range []int{order - 1, order, order + 1, 2 * order, 5 * order, order * order, 300} {
					d, b := newDrawn(rnd), newBoth(t, order)
					for i, r := range d.rects(n) {
						b.put(i, r)
						b.sound()
					}
					for _, id := range inOrder(rnd, b.ids(), how) {
						b.delete(id)
						b.sound()
						b.window(d.rect())
					}
					b.all()
				}
			}
		})
	}
}

// P14.3: as many items as there may be, all of them deleted in each of these orders.
func TestDeleteAllOfFull(t *testing.T) {
	for i, order := range orders() {
		t.Run(strconv.Itoa(order), func(t *testing.T) {
			t.Parallel()
			rnd := rand.New(rand.NewSource(int64(1440 + order)))
			b := full(t, order)
			for n, id := range inOrder(rnd, b.ids(), i%3) {
				if n%50 == 0 || n > 1980 {
					b.sound()
					b.window(rc(int64(n%400), 0, int64(n%400)+30, 300))
				}
				b.delete(id)
			}
			b.all()
		})
	}
}

// P14.3: so many are deleted that nodes have too few: all of a node but one, of each node, and the last one of it too.
func TestEmptyNodes(t *testing.T) {
	for _, order := range orders() {
		for _, rest := range []int{0, 1, 2} {
			b := newBoth(t, order)
			for i := range 150 {
				b.put(i, rc(int64(i%13)*10, int64(i/13)*10, int64(i%13)*10+12, int64(i/13)*10+12))
			}
			for len(b.x.Nodes()) > 1 {
				nodes := b.x.Nodes()
				leaf := nodes[len(nodes)-1]
				for _, id := range leaf.Kids[min(rest, len(leaf.Kids)-1):] {
					b.delete(id)
					b.sound()
				}
			}
			b.all()
		}
	}
}

// P14.3: seven items in each order in which they may be put, and deleted in some.
func TestEachOrder(t *testing.T) {
	rnd := rand.New(rand.NewSource(144))
	l := []api.Rect{rc(0, 0, 3, 3), at(2, 2), rc(9, 0, 9, 9), rc(-4, 8, 1, 9), rc(3, 3, 5, 5), at(8, 1), rc(0, 7, 9, 7)}
	everyOrder(rising(len(l)), 0, func(ids []int) {
		b := newBoth(t, 4)
		for _, id := range ids {
			b.put(id, l[id])
			b.sound()
		}
		b.at(pt(2, 2))
		b.window(rc(3, 3, 8, 8))
		for _, id := range inOrder(rnd, b.ids(), 2) {
			b.delete(id)
			b.sound()
			b.window(rc(3, 3, 8, 8))
		}
	})
}

// everyOrder calls f with the numbers in each order, from a place on.
func everyOrder(l []int, from int, f func(l []int)) {
	if from == len(l) {
		f(slices.Clone(l))
		return
	}
	for i := from; i < len(l); i++ {
		l[from], l[i] = l[i], l[from]
		everyOrder(l, from+1, f)
		l[from], l[i] = l[i], l[from]
	}
}

// P1: no call panics, at any bytes of a fuzzer: they are puts, deletes, and questions; all of them are as in the list.
func FuzzAll(f *testing.F) {
	f.Add(4, []byte{0, 1, 2, 3, 4, 5, 6, 7, 8, 9, 10, 11, 12, 13, 14, 15, 16, 17, 18})
	f.Add(5, slices.Repeat([]byte{1, 9, 0, 0, 7, 7, 3, 12, 1, 1, 2, 2}, 30))
	var b []byte
	for i := range 250 {
		b = append(b, 0, byte(i), byte(i*7), byte(i*3), byte(i*5), byte(i*11))
	}
	for i := range 250 {
		b = append(b, 1, byte(i*13), 0, 0, 0, 0)
	}
	f.Add(7, b)
	f.Fuzz(func(t *testing.T, order int, bytes []byte) {
		b := newBoth(t, 4+int(uint(order)%13))
		sides := []int64{0, 1, 2, 5, -m, m, m - 1, -1, 100, 50, 70, m + 1}
		for ; len(bytes) >= 6; bytes = bytes[6:] {
			s := func(i int) int64 { return sides[int(bytes[i])%len(sides)] }
			r := rc(s(2), s(3), s(4), s(5))
			if bytes[0] < 250 {
				r = rc(min(r.X1, r.X2), min(r.Y1, r.Y2), max(r.X1, r.X2), max(r.Y1, r.Y2))
			}
			if id := int(bytes[1]) - 1; bytes[0]%3 == 1 {
				b.delete(id)
			} else {
				b.put(id, r)
			}
			b.sound()
			b.at(pt(r.X1, r.Y2))
			b.window(r)
		}
		b.window(whole())
	})
}
