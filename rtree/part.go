package rtree

import (
	"slices"

	"plover/api"
	"plover/rect"
	"plover/rsplit"
)

// itemLevel is the level of an item: one below that of the nodes that it is a kid of.
const itemLevel = -1

// part is an item, or a node: both are put into nodes of the level above theirs.
type part struct {
	level int
	rect  api.Rect
	id    int     // of an item
	kids  []*part // of a node
}

func newItem(x api.Item) *part { return &part{level: itemLevel, rect: x.Rect, id: x.Id} }

func newNode(level int, kids []*part) *part {
	n := &part{level: level, kids: kids}
	n.fit()
	return n
}

// fit makes a node's rectangle the least that holds its kids', a zero one of no kids.
func (n *part) fit() {
	n.rect = api.Rect{}
	for i, k := range n.kids {
		// It starts from a kid's rectangle: a zero one would be held too.
		if i == 0 {
			n.rect = k.rect
		}
		n.rect = rect.Join(n.rect, k.rect)
	}
}

// rects are the kids' rectangles.
func (n *part) rects() []api.Rect {
	l := make([]api.Rect, len(n.kids))
	for i, k := range n.kids {
		l[i] = k.rect
	}
	return l
}

// pick are the kids at some places.
func (n *part) pick(places []int) []*part {
	l := make([]*part, len(places))
	for i, place := range places {
		l[i] = n.kids[place]
	}
	return l
}

// choose is the kid that is to take a part in.
//
// Layer 13 has no error for this, nor for what is asked below: these are few rectangles, all looked at when they were put.
func (n *part) choose(x *part) *part {
	place, _ := rsplit.Choose(n.rects(), x.rect, n.level == 1)
	return n.kids[place]
}

// split parts the kids into those that stay, and those of a new node of that level, each at least so many.
func (n *part) split(least int) *part {
	stay, leave, _ := rsplit.Split(n.rects(), least)
	other := newNode(n.level, n.pick(leave))
	n.kids = n.pick(stay)
	n.fit()
	return other
}

// loseFarthest takes as many kids out that are farthest, and answers them, the nearest one first.
func (n *part) loseFarthest(many int) []*part {
	places, _ := rsplit.Farthest(n.rects(), many)
	lost := n.pick(places)
	n.kids = slices.DeleteFunc(n.kids, func(k *part) bool { return slices.Contains(lost, k) })
	n.fit()
	return lost
}

// lose takes a kid out, if it is one.
func (n *part) lose(kid *part) {
	n.kids = slices.DeleteFunc(n.kids, func(k *part) bool { return k == kid })
	n.fit()
}

// find adds the numbers of the items whose rectangles are wanted: whatever holds such a one is wanted, too.
func (n *part) find(ids []int, wanted func(r api.Rect) bool) []int {
	switch {
	case !wanted(n.rect):
		return ids
	case n.level == itemLevel:
		return append(ids, n.id)
	}
	for _, k := range n.kids {
		ids = k.find(ids, wanted)
	}
	return ids
}

// pathTo are the nodes from the one whose kid a part is up to this one; none, if the part isn't below this one.
func (n *part) pathTo(x *part) []*part {
	if n.level == x.level+1 {
		if slices.Contains(n.kids, x) {
			return []*part{n}
		}
		return nil
	}
	for _, k := range n.kids {
		if !rect.Holds(k.rect, x.rect) {
			continue
		}
		if path := k.pathTo(x); path != nil {
			return append(path, n)
		}
	}
	return nil
}
