package rtree

import "slices"

// least is how many kids a node but the root has at least: two fifths of those that are split, as R*-trees do best with.
//
// That is more than a sound index needs, and always two or more, so that each level has at most half the nodes of the one below it.
func (t *Tree) least() int { return (t.order + 1) * 2 / 5 }

// many is how many kids a node that has too many puts in anew: three tenths of them, which is one at least.
func (t *Tree) many() int { return (t.order + 1) * 3 / 10 }

// put puts a part in.
func (t *Tree) put(x *part) {
	// Each level puts kids in anew at most once, or this might never end. A node that isn't the root is split only at a level
	// that did so, so that no node above the level fresh ever gets too many.
	fresh := x.level + 1
	for todo := []*part{x}; len(todo) > 0; {
		anew := t.add(todo[0], fresh)
		if len(anew) > 0 {
			fresh++
		}
		todo = append(todo[1:], anew...)
	}
}

// add adds a part to a node, and answers the parts that are to be put in anew: those of a node of the level fresh, if that has too many.
func (t *Tree) add(x *part, fresh int) []*part {
	var anew []*part
	path := t.pathFor(x)
	path[0].kids = append(path[0].kids, x)
	for i, n := range path {
		n.fit()
		switch {
		case len(n.kids) <= t.order:
		case n == t.root:
			other := n.split(t.least())
			t.root = newNode(n.level+1, []*part{n, other})
		case n.level == fresh:
			anew = n.loseFarthest(t.many())
		default:
			path[i+1].kids = append(path[i+1].kids, n.split(t.least()))
		}
	}
	return anew
}

// pathFor are the nodes from the one that is to take a part in up to the root.
func (t *Tree) pathFor(x *part) []*part {
	n := t.root
	path := []*part{n}
	for n.level > x.level+1 {
		n = n.choose(x)
		path = append(path, n)
	}
	slices.Reverse(path)
	return path
}

// remove takes an item out.
func (t *Tree) remove(item *part) {
	var orphans []*part
	lost := item
	for _, n := range t.root.pathTo(item) {
		n.lose(lost)
		if n != t.root && len(n.kids) < t.least() {
			orphans = append(orphans, n.kids...)
			lost = n
		}
	}
	for _, x := range orphans {
		t.put(x)
	}
	// A kid of the root has two kids itself, or is at level 0: the next root is all right.
	if t.root.level > 0 && len(t.root.kids) == 1 {
		t.root = t.root.kids[0]
	}
}
