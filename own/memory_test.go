package own_test

import (
	"slices"
	"sync"
	"testing"

	"plover/api"
)

// spoil changes all of a list, and what stands behind it.
func spoil(l []int) {
	l = l[:cap(l)]
	for i := range l {
		l[i] = -7
	}
}

// R2: what is told is new memory each time, of short lists and of long ones.
func TestAllIsNew(t *testing.T) {
	for _, c := range []struct {
		s, brokers int
		r          api.Rect
	}{{30, 1, whole()}, {30, 64, rc(0, 0, 1, 1)}, {30, 64, whole()}, {31, 64, whole()}, {24, 3, whole()}, {24, 64, whole()}} {
		want := slices.Clone(allOf(t, c.s, c.brokers, c.r))
		first := allOf(t, c.s, c.brokers, c.r)
		second := allOf(t, c.s, c.brokers, c.r)
		spoil(first)
		if !slices.Equal(second, want) {
			t.Error("shift", c.s, c.brokers, "brokers,", c.r, "is changed to", second)
		}
		wantOwners(t, c.s, c.brokers, c.r, want...)
	}
}

// R2: nothing is kept: what was asked ahead makes no difference, be it refused or not.
func TestNothingIsKept(t *testing.T) {
	for range 3 {
		wantOwner(t, 31, 64, pt(m, m), 48)
		wantOwner(t, 30, 64, pt(m, m), 59)
		wantOwner(t, 30, 3, pt(m, m), 2)
		wantNoOwner(t, 30, 65, pt(m, m), api.ErrArg)
		wantNoOwner(t, 30, 3, pt(m, m+1), api.ErrRange)
		wantNoOwner(t, 32, 3, pt(m, m), api.ErrArg)
		wantOwners(t, 30, 64, rc(m-1, m-1, m, m), 14, 29, 44, 59)
		wantNoOwners(t, 30, 0, rc(m-1, m-1, m, m))
		wantOwners(t, 31, 64, rc(m-1, m-1, m, m), 0, 16, 32, 48)
		wantNoOwners(t, 31, 64, rc(m-1, m-1, m, m-2))
		wantOwners(t, 24, 64, rc(m-1, m-1, m, m), 21, 35, 49, 63)
	}
}

// R2: several that ask at once are told what each would be told alone.
func TestAtOnce(t *testing.T) {
	var all sync.WaitGroup
	for i := range 8 {
		all.Go(func() {
			for n := range 200 {
				s, brokers := 24+(i+n)%8, 1+(7*i+n)%64
				wantOwner(t, s, brokers, pt(-m, -m), 0)
				wantOwners(t, s, 1, rc(-9, -9, 9, 9), 0)
				wantOwners(t, 31, 64, whole(), 0, 16, 32, 48)
				wantOwner(t, 30, 64, pt(m, m), 59)
				wantNoOwner(t, s, brokers, pt(m+1, 0), api.ErrRange)
			}
		})
	}
	all.Wait()
}
