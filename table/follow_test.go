package table_test

import (
	"math/rand"
	"testing"

	"plover/api"
	"plover/rect"
	"plover/region"
	"plover/zone"
)

// watch holds all that a table tells against P19.5 alone.
type watch struct {
	drawn
	last map[int]int // the version that was told last, of each number
}

// saw fails if a version goes back, or a cover doesn't hold its region's box.
func (w watch) saw(what string, s api.Sub) {
	w.t.Helper()
	own, err := region.Box(s.Region)
	if err != nil || !rect.Holds(s.Cover, own) {
		w.t.Fatal(what, "tells", s, "whose box isn't held", own, err)
	}
	if cover, err := zone.Cover(w.shift, s.Region); err != nil || !rect.Holds(s.Cover, cover) {
		w.t.Fatal(what, "tells", s, "whose cover isn't held", cover, err)
	}
	if s.Version < w.last[s.Id] {
		w.t.Fatal(what, "tells", s, "behind version", w.last[s.Id])
	}
	w.last[s.Id] = s.Version
}

// sawAll looks at all that there are.
func (w watch) sawAll(what string) {
	w.t.Helper()
	for _, s := range w.x.Subs() {
		w.saw(what, s)
		if got, is := w.x.Get(s.Id); !is || !same(got, s) {
			w.t.Fatal(got, is, "is told as", s)
		}
	}
}

// addOne adds one, which raises the version.
func (w watch) addOne(id int) {
	w.t.Helper()
	before := w.last[id]
	s, err := w.x.Add(id, w.aRegion(), w.aFilter())
	if err != nil {
		return
	}
	w.counts["add"]++
	if w.saw("add", s); s.Version <= before || before > 0 && s.Version != before+1 {
		w.t.Fatal("add of", id, "tells version", s.Version, "behind", before)
	}
}

// moveOne moves one there, and, now and then, back: what is safe leaves the version and the cover.
func (w watch) moveOne(id int) {
	w.t.Helper()
	// The list knows where it is, so that a move can be drawn by its cover.
	w.both.list = w.x.Subs()
	d := w.aMove(id)
	for range 1 + w.Intn(2) {
		before, is := w.x.Get(id)
		s, safe, err := w.x.Move(id, d)
		if err != nil {
			return
		}
		if w.saw("move", s); !is || s.Filter != before.Filter {
			w.t.Fatal("move of", id, "tells", s, "behind", before, is)
		}
		if safe && (s.Version != before.Version || s.Cover != before.Cover) || !safe && s.Version != before.Version+1 {
			w.t.Fatal("move of", id, "by", d, "is safe:", safe, s, "behind", before)
		}
		if own, err := region.Box(s.Region); err != nil || safe != rect.Holds(before.Cover, own) {
			w.t.Fatal("move of", id, "by", d, "is safe:", safe, own, "in", before.Cover, err)
		}
		if safe {
			w.counts["safe"]++
		} else {
			w.counts["unsafe"]++
		}
		d = pt(-d.X, -d.Y)
	}
}

// dropOne drops one, which raises the version, though it is gone.
func (w watch) dropOne(id int) {
	w.t.Helper()
	before := w.last[id]
	s, err := w.x.Drop(id)
	if err != nil {
		return
	}
	w.counts["drop"]++
	if w.saw("drop", s); s.Version != before+1 {
		w.t.Fatal("drop of", id, "tells version", s.Version, "behind", before)
	}
}

// P19.5: drawn runs over a few numbers: each cover holds its region's box, no version of a number ever goes back, also behind a drop, and a safe move leaves it.
func TestFollows(t *testing.T) {
	counts := map[string]int{}
	for s := 24; s <= 31; s++ {
		for run := range int64(12) {
			rnd := rand.New(rand.NewSource(1000*int64(s) + run))
			w := watch{drawn{rnd, newBoth(t, s, 1+rnd.Intn(5)), counts}, map[int]int{}}
			for range 300 {
				id := rnd.Intn(5)
				switch k := rnd.Intn(10); {
				case k < 2:
					w.addOne(id)
				case k < 9:
					w.moveOne(id)
				default:
					w.dropOne(id)
				}
				w.sawAll("subs")
			}
		}
	}
	for _, k := range []string{"add", "drop", "safe", "unsafe"} {
		if counts[k] < 1000 {
			t.Error("only", counts[k], "of", k)
		}
	}
}

// P19.5: of one number, added, moved and dropped again and again, the versions that are told never go back, and the next one is always one more.
func TestVersionsOfOne(t *testing.T) {
	b := newBoth(t, 24, 1)
	version := 0
	for range 50 {
		b.add(1, box(0, 0, 5, 5), "true")
		version++
		for _, d := range pts(1, 1, -1, -1, 0, 0) {
			if safe, err := b.move(1, d); !safe || err != nil || b.list[0].Version != version {
				t.Fatal(d, safe, err, b.list, version)
			}
		}
		for _, d := range pts(-1, 0, 1<<24, 0, -1<<25, 1<<25) {
			version++
			if safe, err := b.move(1, d); safe || err != nil || b.list[0].Version != version {
				t.Fatal(d, safe, err, b.list, version)
			}
		}
		b.drop(1)
		version++
		if b.told[1] != version {
			t.Fatal(b.told, version)
		}
	}
}
