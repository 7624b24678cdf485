package rsplit_test

import (
	"math/big"
	"math/rand"
	"slices"

	"plover/api"
)

const m = api.MaxCoord

// rc is a rectangle.
func rc(x1, y1, x2, y2 int64) api.Rect { return api.Rect{X1: x1, Y1: y1, X2: x2, Y2: y2} }

// at is a rectangle of one point.
func at(x, y int64) api.Rect { return rc(x, y, x, y) }

// whole is the greatest rectangle that may be.
func whole() api.Rect { return rc(-m, -m, m, m) }

// span is a side's length along one axis, from low to high.
type span struct{ low, high int64 }

// spans are a rectangle's, along x and along y.
func spans(r api.Rect) [2]span { return [2]span{{r.X1, r.X2}, {r.Y1, r.Y2}} }

// slowHull is the rectangle of some, by their sides put in order.
func slowHull(l []api.Rect) [2]span {
	var hull [2]span
	for axis := range hull {
		var lows, highs []int64
		for _, r := range l {
			lows, highs = append(lows, spans(r)[axis].low), append(highs, spans(r)[axis].high)
		}
		slices.Sort(lows)
		slices.Sort(highs)
		hull[axis] = span{lows[0], highs[len(highs)-1]}
	}
	return hull
}

// slowArea is an area, 0 of what is nothing.
func slowArea(s [2]span) *big.Int {
	if s[0].low > s[0].high || s[1].low > s[1].high {
		return new(big.Int)
	}
	return new(big.Int).Mul(length(s[0]), length(s[1]))
}

func length(s span) *big.Int { return new(big.Int).Sub(big.NewInt(s.high), big.NewInt(s.low)) }

func slowMargin(s [2]span) *big.Int { return new(big.Int).Add(length(s[0]), length(s[1])) }

// slowOverlap is the area of what two have in common.
func slowOverlap(a, b [2]span) *big.Int {
	var s [2]span
	for axis := range s {
		s[axis] = span{max(a[axis].low, b[axis].low), min(a[axis].high, b[axis].high)}
	}
	return slowArea(s)
}

// pick is the rectangles at some places.
func pick(l []api.Rect, places []int) []api.Rect {
	var told []api.Rect
	for _, i := range places {
		told = append(told, l[i])
	}
	return told
}

// slowOrder takes, again and again, the place that stands ahead of all others that are left.
func slowOrder(l []api.Rect, axis int, byHigh bool) []int {
	key := func(i int) []int64 {
		s := spans(l[i])[axis]
		if byHigh {
			return []int64{s.high, s.low, int64(i)}
		}
		return []int64{s.low, s.high, int64(i)}
	}
	var order []int
	for len(order) < len(l) {
		first := -1
		for i := range l {
			if !slices.Contains(order, i) && (first < 0 || slices.Compare(key(i), key(first)) < 0) {
				first = i
			}
		}
		order = append(order, first)
	}
	return order
}

// slowCut is a cut, as the oracle has it.
type slowCut struct {
	a, b           []int
	byHigh         bool
	overlap, areas *big.Int
}

// same tells whether two cuts have the same parts, each in the same order.
func (c slowCut) same(other slowCut) bool {
	return slices.Equal(c.a, other.a) && slices.Equal(c.b, other.b)
}

// slowCuts are all cuts along an axis, and what their margins sum up to.
func slowCuts(l []api.Rect, min, axis int) ([]slowCut, *big.Int) {
	var cuts []slowCut
	margins := new(big.Int)
	for _, byHigh := range []bool{false, true} {
		order := slowOrder(l, axis, byHigh)
		for k := range l {
			if k < min || len(l)-k < min {
				continue
			}
			a, b := slowHull(pick(l, order[:k])), slowHull(pick(l, order[k:]))
			margins.Add(margins, slowMargin(a))
			margins.Add(margins, slowMargin(b))
			cuts = append(cuts, slowCut{order[:k], order[k:], byHigh, slowOverlap(a, b), new(big.Int).Add(slowArea(a), slowArea(b))})
		}
	}
	return cuts, margins
}

// slowBest is the best one of some cuts.
func slowBest(cuts []slowCut) slowCut {
	best := cuts[0]
	for _, c := range cuts {
		if n := c.overlap.Cmp(best.overlap); n < 0 || n == 0 && c.areas.Cmp(best.areas) < 0 {
			best = c
		}
	}
	return best
}

// met counts what drawn inputs were like.
type met map[string]int

// slowSplit splits rectangles, of which there are enough.
func slowSplit(l []api.Rect, min int, seen met) ([]int, []int) {
	x, xMargins := slowCuts(l, min, 0)
	y, yMargins := slowCuts(l, min, 1)
	cuts := x
	switch xMargins.Cmp(yMargins) {
	case 1:
		cuts = y
		seen["the axis is y"]++
	case 0:
		if !slowBest(x).same(slowBest(y)) {
			seen["alike axes that split otherwise"]++
		}
	}
	best := slowBest(cuts)
	if best.byHigh {
		seen["the cut is by the high side"]++
	}
	if best.overlap.Sign() > 0 {
		seen["the parts overlap"]++
	}
	for _, c := range cuts {
		switch {
		case c.same(best) || c.overlap.Cmp(best.overlap) != 0:
		case c.areas.Cmp(best.areas) != 0:
			seen["cuts of alike overlap"]++
		case c.byHigh == best.byHigh:
			seen["cuts of alike overlap and areas"]++
		default:
			seen["cuts of alike overlap and areas in both orders"]++
		}
	}
	return best.a, best.b
}

// slowCost is what it takes that the one at a place takes r in: by how much its overlap grows, its area grows, its area.
func slowCost(l []api.Rect, place int, r api.Rect, leaves bool) []*big.Int {
	before, after := spans(l[place]), slowHull([]api.Rect{l[place], r})
	overlap := new(big.Int)
	for i, other := range l {
		if leaves && i != place {
			overlap.Add(overlap, slowOverlap(after, spans(other)))
			overlap.Sub(overlap, slowOverlap(before, spans(other)))
		}
	}
	return []*big.Int{overlap, new(big.Int).Sub(slowArea(after), slowArea(before)), slowArea(before)}
}

// slowChoose chooses one of rectangles, of which there is one at least.
func slowChoose(l []api.Rect, r api.Rect, leaves bool, seen met) int {
	var costs [][]*big.Int
	best := 0
	for i := range l {
		costs = append(costs, slowCost(l, i, r, leaves))
		if slices.CompareFunc(costs[i], costs[best], (*big.Int).Cmp) < 0 {
			best = i
		}
	}
	for i, c := range costs {
		kind := "not at the leaves: "
		if leaves {
			kind = "at the leaves: "
		}
		switch {
		case i == best:
		case c[0].Cmp(costs[best][0]) != 0:
			seen[kind+"overlap"]++
		case c[1].Cmp(costs[best][1]) != 0:
			seen[kind+"growth"]++
		case c[2].Cmp(costs[best][2]) != 0:
			seen[kind+"area"]++
		default:
			seen[kind+"first"]++
		}
	}
	return best
}

// slowFarthest takes, again and again, the one that is farthest of those that are left, the latest one of alike ones.
func slowFarthest(l []api.Rect, many int, seen met) []int {
	if len(l) == 0 {
		return nil
	}
	all := slowHull(l)
	far := func(i int) *big.Int {
		sum := new(big.Int)
		for axis, s := range spans(l[i]) {
			n := new(big.Int).Add(big.NewInt(s.low), big.NewInt(s.high))
			n.Sub(n, big.NewInt(all[axis].low))
			n.Sub(n, big.NewInt(all[axis].high))
			sum.Add(sum, n.Abs(n))
		}
		return sum
	}
	var told []int
	for len(told) < many {
		farthest := -1
		for i := range l {
			if !slices.Contains(told, i) && (farthest < 0 || far(i).Cmp(far(farthest)) >= 0) {
				farthest = i
			}
		}
		told = append(told, farthest)
	}
	for i := range l {
		for _, other := range told {
			if i != other && far(i).Cmp(far(other)) == 0 {
				if slices.Contains(told, i) {
					seen["alike ones are told"]++
				} else {
					seen["one of alike ones is told"]++
				}
			}
		}
	}
	slices.Reverse(told)
	return told
}

// pools are few sides, and more, small ones and the greatest that may be.
func pools() [][]int64 {
	return [][]int64{
		{0, 1}, {0, 1, 2}, {-1, 0, 1, 3}, {-5, -2, 0, 1, 4, 7}, {0, 1, 2, 3, 4, 5, 6, 7, 8, 9},
		{-m, m}, {-m, 0, m}, {-m, -m + 1, m - 1, m}, {-m, -m / 2, m / 2, m}, {-m, -m / 3, -1, 0, 1, m / 3, m / 2, m - 1, m},
	}
}

// drawSpan are two sides of a list, in order.
func drawSpan(rnd *rand.Rand, sides []int64) span {
	a, b := sides[rnd.Intn(len(sides))], sides[rnd.Intn(len(sides))]
	return span{min(a, b), max(a, b)}
}

// drawRect is a rectangle whose sides are of a list.
func drawRect(rnd *rand.Rand, sides []int64) api.Rect {
	x, y := drawSpan(rnd, sides), drawSpan(rnd, sides)
	return rc(x.low, y.low, x.high, y.high)
}

// drawSides is a list of sides: one of the pools, or few of any size.
func drawSides(rnd *rand.Rand) []int64 {
	if rnd.Intn(4) > 0 {
		return pools()[rnd.Intn(len(pools()))]
	}
	var sides []int64
	for range 2 + rnd.Intn(6) {
		sides = append(sides, rnd.Int63n(2*m+1)-m)
	}
	return sides
}

// draw are n rectangles whose sides are of a list: at times points, at times all on one line.
func draw(rnd *rand.Rand, n int, sides []int64) []api.Rect {
	points, line := rnd.Intn(5) == 0, rnd.Intn(5)
	var l []api.Rect
	for range n {
		r := drawRect(rnd, sides)
		if points {
			r.X2, r.Y2 = r.X1, r.Y1
		}
		switch line {
		case 0:
			r.X1, r.X2 = sides[0], sides[0]
		case 1:
			r.Y1, r.Y2 = sides[0], sides[0]
		}
		l = append(l, r)
	}
	return l
}

// everyRect are all rectangles whose sides are of a list that rises.
func everyRect(sides []int64) []api.Rect {
	var l []api.Rect
	for i, x1 := range sides {
		for _, x2 := range sides[i:] {
			for j, y1 := range sides {
				for _, y2 := range sides[j:] {
					l = append(l, rc(x1, y1, x2, y2))
				}
			}
		}
	}
	return l
}

// everyList calls f with each list of n of some rectangles.
func everyList(all []api.Rect, n int, f func(l []api.Rect)) {
	l := make([]api.Rect, n)
	var fill func(i int)
	fill = func(i int) {
		if i == n {
			f(l)
			return
		}
		for _, r := range all {
			l[i] = r
			fill(i + 1)
		}
	}
	fill(0)
}
