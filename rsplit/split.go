package rsplit

import (
	"cmp"
	"slices"

	"plover/api"
	"plover/rect"
)

// cut is a way to part rectangles that are put in an order.
type cut struct {
	order   []int // places
	first   int   // how many are in the first part
	margin  int64
	overlap int64
	areas   uint64 // two areas of 2^62 don't fit into an int64
}

// side is the side of a rectangle that it is put in order by, and the other one of that axis.
type side func(r api.Rect) (int64, int64)

// Split splits rectangles: P13.1.
func Split(l []api.Rect, min int) ([]int, []int, error) {
	// Twice min might be too great for an int.
	if !may(l) || min < 1 || min > len(l)/2 {
		return nil, nil, api.ErrArg
	}
	cuts := slices.Concat(cutsBy(l, min, lowX), cutsBy(l, min, highX))
	other := slices.Concat(cutsBy(l, min, lowY), cutsBy(l, min, highY))
	if margins(other) < margins(cuts) {
		cuts = other
	}
	// Of alike ones this is the first one.
	best := slices.MinFunc(cuts, compareCuts)
	// Both parts lie in one list, which they may not share.
	return slices.Clone(best.order[:best.first]), slices.Clone(best.order[best.first:]), nil
}

func lowX(r api.Rect) (int64, int64)  { return r.X1, r.X2 }
func highX(r api.Rect) (int64, int64) { return r.X2, r.X1 }
func lowY(r api.Rect) (int64, int64)  { return r.Y1, r.Y2 }
func highY(r api.Rect) (int64, int64) { return r.Y2, r.Y1 }

// cutsBy are the cuts of the order by a side, by rising first parts.
func cutsBy(l []api.Rect, min int, by side) []cut {
	order := places(l, by.compare)
	ordered := make([]api.Rect, len(l))
	for i, place := range order {
		ordered[i] = l[place]
	}
	var cuts []cut
	for first := min; first <= len(l)-min; first++ {
		one, other := hull(ordered[:first]), hull(ordered[first:])
		cuts = append(cuts, cut{
			order:   order,
			first:   first,
			margin:  rect.Margin(one) + rect.Margin(other),
			overlap: overlap(one, other),
			areas:   uint64(rect.Area(one)) + uint64(rect.Area(other)),
		})
	}
	return cuts
}

// compare is below 0, if the first one stands ahead.
func (by side) compare(a, b api.Rect) int {
	first1, second1 := by(a)
	first2, second2 := by(b)
	return cmp.Or(cmp.Compare(first1, first2), cmp.Compare(second1, second2))
}

// margins is what the cuts' margins sum up to.
func margins(cuts []cut) int64 {
	var total int64
	for _, c := range cuts {
		total += c.margin
	}
	return total
}

// compareCuts is below 0, if the first one is the better one.
func compareCuts(a, b cut) int {
	return cmp.Or(cmp.Compare(a.overlap, b.overlap), cmp.Compare(a.areas, b.areas))
}
