package table_test

import (
	"math"
	"math/rand"
	"testing"

	"plover/api"
	"plover/table"
)

// drawn draws steps on a table, and counts what comes of them.
type drawn struct {
	*rand.Rand
	*both
	counts map[string]int
}

// anId is one of few numbers; now and then another one, or one that may not be.
func (r drawn) anId() int {
	if r.Intn(30) == 0 {
		return []int{-1, 1 << 31, math.MinInt, math.MaxInt, 1<<32 + 1, 1<<31 - 2, 77}[r.Intn(7)]
	}
	return []int{0, 1, 2, 5, 1000, 1<<31 - 1}[r.Intn(6)]
}

// aNumber is a coordinate: about a cell's edge, at the bounds, or anywhere.
func (r drawn) aNumber() int64 {
	switch r.Intn(4) {
	case 0:
		return r.Int63n(2*m+1) - m
	case 1:
		return []int64{-m, m, 0, -m + 1, m - 1}[r.Intn(5)]
	}
	return max(-m, min(m, (r.Int63n(257)-128)<<23+r.Int63n(5)-2))
}

// aRegion may be, but now and then: a rectangle, or a polygon.
func (r drawn) aRegion() api.Region {
	x, y := r.aNumber(), r.aNumber()
	size := int64(1) << (1 + r.Intn(29))
	w, h := min(r.Int63n(size), m-x), min(r.Int63n(size), m-y)
	switch k := r.Intn(20); {
	case k == 0:
		return []api.Region{box(1, 0, 0, 0), box(0, 0, m+1, 0), shape(0, 0, 4, 0), shape(0, 0, 4, 4, 4, 0, 0, 4), {Rect: rc(0, 0, 1, 1), Poly: pts(0, 0, 4, 0, 0, 4)}}[r.Intn(5)]
	case k < 10:
		return box(x, y, x+w, y+h)
	case k < 12:
		return box(x, y, x, y)
	case k < 16 && w > 3 && h > 3:
		return shape(x, y+h/2, x+w/2, y, x+w, y+h/2, x+w/2, y+h)
	}
	return shape(x, y, x+w, y, x, y+h)
}

// aFilter may be, but now and then.
func (r drawn) aFilter() string {
	if r.Intn(20) == 0 {
		return []string{"", "a <", "?", "and", "a in (1, \"x\")", "a = 01", string(make([]byte, 501))}[r.Intn(7)]
	}
	return filters()[r.Intn(len(filters()))]
}

// aMove is one within the cover, up to its edge, one beyond it, up to the bounds, there and back, or anything.
func (r drawn) aMove(id int) api.Point {
	i := r.place(id)
	if i < 0 || r.Intn(8) == 0 {
		return pt(r.aNumber()*r.Int63n(2)+r.Int63n(9)-4, r.aNumber())
	}
	own, cover := slowBox(r.list[i].Region), r.list[i].Cover
	whole := rc(-m, -m, m, m)
	pick := func(low, high, least, most int64) int64 {
		return []int64{0, low, high, low - 1, high + 1, least, most, low + r.Int63n(high-low+1), low + r.Int63n(high-low+1), least + r.Int63n(most-least+1)}[r.Intn(10)]
	}
	d := pt(
		pick(cover.X1-own.X1, cover.X2-own.X2, whole.X1-own.X1, whole.X2-own.X2),
		pick(cover.Y1-own.Y1, cover.Y2-own.Y2, whole.Y1-own.Y1, whole.Y2-own.Y2),
	)
	if r.Intn(3) == 0 {
		d.X = 0
	}
	return d
}

// count counts an outcome of a call.
func (r drawn) count(what string, safe bool, err error) {
	if err != nil {
		what += ", " + err.Error()
	} else if safe {
		what += ", safe"
	}
	r.counts[what]++
}

// step does one of all that can be done.
func (r drawn) step() {
	r.t.Helper()
	id := r.anId()
	switch k := r.Intn(10); {
	case k < 3:
		r.count("add", false, r.add(id, r.aRegion(), r.aFilter()))
	case k < 8:
		safe, err := r.move(id, r.aMove(id))
		r.count("move", safe, err)
	case k < 9:
		r.count("drop", false, r.drop(id))
	default:
		if i := r.place(id); i >= 0 {
			own := slowBox(r.list[i].Region)
			p := pt(own.X1+r.Int63n(own.X2-own.X1+2), own.Y1+r.Int63n(own.Y2-own.Y1+2))
			if r.wants(id, api.Event{Pub: 3, Seq: 9, At: p, Attrs: attrs()[r.Intn(len(attrs()))]}) {
				r.counts["wanted"]++
			}
		}
	}
}

// P19.1 to P19.5: drawn runs of all that can be done, of each shift, held against the list behind each step.
func TestDrawn(t *testing.T) {
	counts := map[string]int{}
	for s := 24; s <= 31; s++ {
		for run := range int64(25) {
			rnd := rand.New(rand.NewSource(100*int64(s) + run))
			r := drawn{rnd, newBoth(t, s, 1+rnd.Intn(6)), counts}
			if run%5 == 0 {
				for _, id := range []int{0, 1, 2, 5, 1000} {
					r.raise(id, 1<<31-1-rnd.Intn(12))
				}
			}
			for range 150 {
				r.step()
			}
		}
	}
	for _, k := range []string{
		"add", "add, error 1", "add, error 2", "add, error 3", "add, error 5", "add, error 8", "add, error 10",
		"move", "move, safe", "move, error 8", "move, error 9", "move, error 11", "drop", "drop, error 9", "wanted",
	} {
		if counts[k] < 25 {
			t.Error("only", counts[k], "of", k, counts)
		}
	}
}

// P19.1 to P19.5: steps that are told by bytes.
func FuzzSteps(f *testing.F) {
	f.Add(24, 3, []byte{0, 1, 2, 3, 4, 5, 6, 7, 8, 9, 10, 11, 12, 13, 14, 15, 16, 17, 18, 19})
	f.Add(31, 1, []byte("subscribe, move, drop, and subscribe anew"))
	f.Fuzz(func(t *testing.T, shift, most int, steps []byte) {
		if x, err := table.New(shift, most); (x == nil) != (err != nil) || (err == nil) != (within(24, 31, int64(shift)) && within(1, 1000, int64(most))) {
			t.Fatal("shift", shift, "most", most, x, err)
		}
		b := newBoth(t, 24+shift&7, 1+most&7)
		for i, c := range steps[:min(len(steps), 300)] {
			r := drawn{rand.New(rand.NewSource(int64(i/8)<<8 + int64(c))), b, map[string]int{}}
			r.step()
		}
	})
}
