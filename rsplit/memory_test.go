package rsplit_test

import (
	"math/rand"
	"slices"
	"sync"
	"testing"

	"plover/api"
	"plover/rsplit"
)

// answers is what all three calls tell of some rectangles, at all that may be asked.
func answers(t *testing.T, l []api.Rect, r api.Rect) [][]int {
	t.Helper()
	var told [][]int
	keep := func(err error, lists ...[]int) {
		t.Helper()
		if err != nil {
			t.Error(l, err)
		}
		told = append(told, lists...)
	}
	for min := 1; 2*min <= len(l); min++ {
		a, b, err := rsplit.Split(l, min)
		keep(err, a, b)
	}
	for many := range len(l) + 1 {
		got, err := rsplit.Farthest(l, many)
		keep(err, got)
	}
	for _, leaves := range []bool{true, false} {
		n, err := rsplit.Choose(l, r, leaves)
		keep(err, []int{n})
	}
	return told
}

// copied is lists in new memory.
func copied(lists [][]int) [][]int {
	var told [][]int
	for _, l := range lists {
		told = append(told, slices.Clone(l))
	}
	return told
}

// same tells whether lists have the same.
func same(a, b [][]int) bool { return slices.EqualFunc(a, b, slices.Equal[[]int]) }

// spoil changes all that a list has, and could grow to.
func spoil(l []int) {
	l = l[:cap(l)]
	for i := range l {
		l[i] = -1 - l[i]
	}
}

// P13.2: what is handed in stays as it is, and so does what lies behind it, whatever is asked, rightly or wrongly.
func TestNothingIsChanged(t *testing.T) {
	rnd := rand.New(rand.NewSource(136))
	for range 500 {
		memory := draw(rnd, 2+rnd.Intn(30), drawSides(rnd))
		want := slices.Clone(memory)
		l := memory[:1+rnd.Intn(len(memory)-1)]
		answers(t, l, memory[len(memory)-1])
		noSplit(t, l, 0)
		noSplit(t, l, len(l))
		noFarthest(t, l, -1)
		noChoose(t, l, rc(1, 0, 0, 0))
		noChoose(t, l[:0], at(0, 0))
		if !slices.Equal(memory, want) {
			t.Fatal(want, "is now", memory)
		}
		wrong := rc(1, 0, 0, 0)
		l[0], want[0] = wrong, wrong
		noSplit(t, l, 1)
		noFarthest(t, l, 1)
		noChoose(t, l, at(0, 0))
		if !slices.Equal(memory, want) {
			t.Fatal(want, "is now", memory)
		}
	}
}

// P13.2: not even for a while is it changed: several that ask of one list at once don't disturb each other (with the
// race detector this fails, too, if none of them meets what another one did).
func TestAskedAtOnce(t *testing.T) {
	rnd := rand.New(rand.NewSource(140))
	for range 20 {
		sides := drawSides(rnd)
		l, r := draw(rnd, 20, sides), drawRect(rnd, sides)
		want := answers(t, slices.Clone(l), r)
		var told [4][][]int
		var all sync.WaitGroup
		for i := range told {
			all.Go(func() { told[i] = answers(t, l, r) })
		}
		all.Wait()
		for _, got := range told {
			if !same(got, want) {
				t.Fatal(l, got, "not", want)
			}
		}
	}
}

// P13.2: what is told is new memory: changed, it changes no other list that was told, nor what is told later.
func TestWhatIsToldIsNew(t *testing.T) {
	rnd := rand.New(rand.NewSource(137))
	for range 300 {
		sides := drawSides(rnd)
		l := draw(rnd, 2+rnd.Intn(14), sides)
		given, r := slices.Clone(l), drawRect(rnd, sides)
		first, second := answers(t, l, r), answers(t, l, r)
		want := copied(first)
		if !same(second, want) {
			t.Fatal(l, "once so, once not")
		}
		for i, told := range first {
			spoil(told)
			for j := range first {
				if j > i && !slices.Equal(first[j], want[j]) {
					t.Fatal(l, "two lists of some answers share memory")
				}
			}
		}
		if !same(second, want) {
			t.Fatal(l, "two answers share memory")
		}
		if !same(answers(t, l, r), want) {
			t.Fatal(l, "a later answer is another one")
		}
		if !slices.Equal(l, given) {
			t.Fatal(l, "shares memory with what was told")
		}
	}
}

// P13.2: both parts of a split may grow, and neither one comes into the other one.
func TestPartsGrow(t *testing.T) {
	l := right(20)
	for min := 1; 2*min <= len(l); min++ {
		a, b, err := rsplit.Split(l, min)
		if err != nil {
			t.Fatal(err)
		}
		wantA, wantB := slices.Clone(a), slices.Clone(b)
		grownA, grownB := append(a, rising(100, 120)...), append(b, rising(200, 220)...)
		if !slices.Equal(a, wantA) || !slices.Equal(b, wantB) || !slices.Equal(grownA[:len(a)], wantA) || !slices.Equal(grownB[:len(b)], wantB) {
			t.Error(min, a, b, grownA, grownB)
		}
	}
}

// R2: nothing that is handed in is kept: the same memory, changed between two calls, is seen anew.
func TestNothingIsKept(t *testing.T) {
	rnd := rand.New(rand.NewSource(138))
	l := make([]api.Rect, 12)
	for range 300 {
		sides := drawSides(rnd)
		copy(l, draw(rnd, len(l), sides))
		r := drawRect(rnd, sides)
		for _, part := range [][]api.Rect{l, l[:6], l[6:]} {
			told := answers(t, part, r)
			if want := answers(t, slices.Clone(part), r); !same(told, want) {
				t.Fatal(part, told, "not", want)
			}
			checkChoose(t, part, r, met{})
			a, b := slowSplit(part, 2, met{})
			wantSplit(t, part, 2, a, b)
			wantFarthest(t, part, 3, slowFarthest(part, 3, met{}))
		}
		told := answers(t, l, r)
		want := copied(told)
		clear(l)
		if !same(told, want) {
			t.Fatal("what was told hangs on memory that was handed in")
		}
	}
}
