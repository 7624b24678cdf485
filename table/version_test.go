package table_test

import (
	"testing"

	"plover/api"
)

// top is the greatest version behind which there is a next one.
const top = 1<<31 - 3

// P19.1, Add: a number that was dropped at 2^31 - 3, or below, is added anew, with one more; above it there is ErrFull, and stays so.
func TestAddAtTheGreatest(t *testing.T) {
	for _, c := range []struct {
		dropped int
		err     error
	}{
		{1, nil}, {1<<16 - 1, nil}, {1 << 30, nil}, {top - 2, nil}, {top - 1, nil}, {top, nil}, {top + 1, api.ErrFull}, {top + 2, api.ErrFull},
	} {
		for _, g := range []api.Region{box(10, 10, 20, 20), shape(10, 10, 20, 10, 10, 20)} {
			b := newBoth(t, 24, 5)
			b.add(3, box(0, 0, 1, 1), "true")
			b.raise(7, c.dropped)
			for range 2 {
				if err := b.add(7, g, "a < 5"); err != c.err && err != api.ErrTwice {
					t.Error("dropped at", c.dropped, err)
				}
			}
			s, is := b.x.Get(7)
			if is != (c.err == nil) || is && s.Version != c.dropped+1 {
				t.Error("dropped at", c.dropped, s, is)
			}
			// Another number is as ever.
			b.add(8, g, "true")
			b.drop(3)
			if err := b.add(3, g, "true"); err != nil {
				t.Error(err)
			}
		}
	}
}

// P19.2, Move: with a version above 2^31 - 3 there is ErrFull, if it isn't safe, and all stays; what is safe goes on, and so does the drop.
func TestMoveAtTheGreatest(t *testing.T) {
	for _, g := range []api.Region{box(10, 10, 20, 20), shape(10, 10, 20, 10, 10, 20)} {
		for dropped := top - 5; dropped <= top; dropped++ {
			b := newBoth(t, 24, 5)
			b.raise(7, dropped)
			if err := b.add(7, g, "true"); err != nil {
				t.Fatal(dropped, err)
			}
			for version := dropped + 1; version <= top; version++ {
				// There and back: each way it leaves its cover.
				far := int64(1 << 25)
				if version&1 == 0 {
					far = -far
				}
				if safe, err := b.move(7, pt(far, 0)); safe || err != nil || b.list[0].Version != version+1 {
					t.Fatal(dropped, version, safe, err, b.list)
				}
			}
			for range 2 {
				for _, d := range pts(1<<25, 0, -1<<25, 0, 0, -1<<25, 1<<24, 1<<24) {
					if safe, err := b.move(7, d); safe || err != api.ErrFull {
						t.Error(dropped, d, safe, err)
					}
				}
				// ErrRange is told ahead of ErrFull.
				for _, d := range append(wrongMoves(), pts(0, m, m, m, -m, m, 5, m-19)...) {
					if s, safe, err := b.x.Move(7, d); safe || err != api.ErrRange || !isZero(s) {
						t.Error(dropped, d, s, safe, err)
					}
				}
				for _, d := range pts(0, 0, 5, -3, -5, 3) {
					if safe, err := b.move(7, d); !safe || err != nil || b.list[0].Version != top+1 {
						t.Error(dropped, d, safe, err)
					}
				}
			}
			b.drop(7)
			if b.told[7] != 1<<31-1 {
				t.Error(dropped, b.told)
			}
			if _, err := b.move(7, pt(1<<25, 0)); err != api.ErrNone {
				t.Error(dropped, err)
			}
			if err := b.add(7, g, "true"); err != api.ErrFull {
				t.Error(dropped, err)
			}
		}
	}
}

// P19.1: which error is told of a number whose versions are used up: ErrArg, Read's, ErrTwice, each ahead of ErrFull.
func TestOrderAtTheGreatest(t *testing.T) {
	for _, most := range []int{1, 2, 1000} {
		b := newBoth(t, 24, most)
		b.raise(7, top)
		b.add(7, box(10, 10, 20, 20), "true")
		for _, c := range []struct {
			g    api.Region
			f    string
			want error
		}{
			{box(1, 0, 0, 0), "true", api.ErrArg}, {box(1, 0, 0, 0), "?", api.ErrArg}, {box(0, 0, 1, 1), "?", api.ErrLex},
			{box(0, 0, 1, 1), "a <", api.ErrParse}, {box(0, 0, 1, 1), "true", api.ErrTwice},
		} {
			if err := b.add(7, c.g, c.f); err != c.want {
				t.Error(most, c, err)
			}
		}
		b.drop(7)
		for _, c := range []struct {
			g    api.Region
			f    string
			want error
		}{
			{box(1, 0, 0, 0), "true", api.ErrArg}, {shape(0, 0, 1, 1), "?", api.ErrArg}, {box(0, 0, 1, 1), "?", api.ErrLex},
			{box(0, 0, 1, 1), "a <", api.ErrParse}, {box(0, 0, 1, 1), "true", api.ErrFull},
		} {
			if err := b.add(7, c.g, c.f); err != c.want {
				t.Error(most, c, err)
			}
		}
		// What was refused takes no room.
		if err := b.add(6, box(0, 0, 1, 1), "true"); err != nil {
			t.Error(most, err)
		}
	}
}

// P19.1, P19.2: near the greatest a version goes the same ways by drops and adds, each of which counts one.
func TestDropsAtTheGreatest(t *testing.T) {
	for below := range 8 {
		b := newBoth(t, 31, 1)
		b.raise(0, top-below)
		version := top - below
		for version <= top {
			if err := b.add(0, box(0, 0, 1, 1), "true"); err != nil {
				t.Fatal(below, version, err)
			}
			b.drop(0)
			version += 2
			if b.told[0] != version {
				t.Fatal(below, version, b.told)
			}
		}
		for range 3 {
			if err := b.add(0, box(0, 0, 1, 1), "true"); err != api.ErrFull {
				t.Error(below, version, err)
			}
			if err := b.drop(0); err != api.ErrNone {
				t.Error(below, version, err)
			}
		}
	}
}
