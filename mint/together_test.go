package mint_test

import (
	"fmt"
	"slices"
	"sync"
	"testing"

	"plover/api"
	"plover/mint"
)

// together runs so many goroutines, that begin at once, and joins them.
func together(n int, run func(i int)) {
	var all sync.WaitGroup
	begin := make(chan bool)
	for i := range n {
		all.Add(1)
		go func() {
			defer all.Done()
			<-begin
			run(i)
		}()
	}
	close(begin)
	all.Wait()
}

// wantOnce fails if lists don't have each number below n once, and no other.
func wantOnce(t *testing.T, lists [][]uint32, n int) {
	t.Helper()
	all := slices.Concat(lists...)
	slices.Sort(all)
	for i, x := range all {
		if int(x) != i {
			t.Fatalf("%d stands where %d should", x, i)
		}
	}
	if len(all) != n {
		t.Fatalf("%d numbers, not %d", len(all), n)
	}
}

// asker is one of several goroutines that ask a mint, with all that it got.
type asker struct {
	t    *testing.T
	m    *mint.Mint
	last uint32
	got  []uint32
	full bool
	used uint64
}

// take looks at what came of one call, that asked for so many: rising, behind all that it got ahead, and ErrFull just if it is too few.
func (a *asker) take(l []uint32, err error, wanted int) {
	if (len(l) < wanted) != (err == api.ErrFull) || len(l) > wanted || err != nil && err != api.ErrFull {
		a.t.Errorf("%d of %d, %v", len(l), wanted, err)
	}
	if a.full && len(l) > 0 {
		a.t.Error("some came behind the last one:", l)
	}
	for _, n := range l {
		if len(a.got) > 0 && n <= a.got[len(a.got)-1] || n > a.last {
			a.t.Error("not the next ones:", l)
		}
		a.got = append(a.got, n)
	}
	a.full = a.full || err != nil
}

// next asks once.
func (a *asker) next() {
	n, err := a.m.Next()
	if err == nil {
		a.take([]uint32{n}, nil, 1)
		return
	}
	if n != 0 {
		a.t.Error(n, err)
	}
	a.take(nil, err, 1)
}

// many asks many.
func (a *asker) many(workers, each int) {
	l, err := a.m.Many(workers, each)
	a.take(l, err, workers*each)
}

// look asks for what hands nothing out: Used rises, and has all that came.
func (a *asker) look() {
	n := a.m.Used()
	if n < a.used || n > uint64(a.last)+1 || len(a.got) > 0 && n <= uint64(a.got[len(a.got)-1]) || a.full && n != uint64(a.last)+1 {
		a.t.Errorf("used: %d, behind %d of at most %d", n, a.used, uint64(a.last)+1)
	}
	a.used = n
	if l, err := a.m.Many(0, 5); len(l) != 0 || err != api.ErrArg {
		a.t.Error(l, err)
	}
	if s := a.m.Label(); s != "p-12" {
		a.t.Error(s)
	}
}

// ask has so many askers do something with one mint at once, and wants each of so many numbers once.
func ask(t *testing.T, askers int, last uint32, want int, run func(a *asker, i int)) {
	t.Helper()
	m := mint.New(-12, last)
	got := make([][]uint32, askers)
	together(askers, func(i int) {
		a := &asker{t: t, m: m, last: last}
		run(a, i)
		got[i] = a.got
	})
	wantOnce(t, got, want)
	if n := m.Used(); n != uint64(want) {
		t.Errorf("used: %d, not %d", n, want)
	}
	next, err := m.Next()
	if want == int(last)+1 && (next != 0 || err != api.ErrFull) || want <= int(last) && (int(next) != want || err != nil) {
		t.Error(next, err)
	}
}

// P12.3: several ask by Next, for fewer than there are, for just as many, and for more.
func TestNextTogether(t *testing.T) {
	for _, askers := range []int{2, 3, 8, 50} {
		for _, times := range []int{1, 2, 100, 1000} {
			n := askers * times
			for _, last := range []int{0, 1, n / 2, n - 2, n - 1, n, n + 1, 1<<32 - 1} {
				ask(t, askers, uint32(last), min(n, last+1), func(a *asker, _ int) {
					for range times {
						a.next()
					}
				})
			}
		}
	}
}

// P12.3: several ask by Many, for fewer than there are, for just as many, and for more.
func TestManyTogether(t *testing.T) {
	for _, size := range [][2]int{{1, 1}, {2, 3}, {1, 64}, {64, 1}, {8, 10}, {64, 64}} {
		for _, times := range []int{1, 3, 9} {
			const askers = 6
			n := askers * times * size[0] * size[1]
			for _, last := range []int{0, 1, n / 2, n - 2, n - 1, n, n + 1, 1<<32 - 1} {
				ask(t, askers, uint32(last), min(n, last+1), func(a *asker, _ int) {
					for range times {
						a.many(size[0], size[1])
					}
				})
			}
		}
	}
}

// P12.1, P12.2, P12.3: several ask by Next and by Many, look how many were handed out, and ask for the label.
func TestAllTogether(t *testing.T) {
	const askers, times = 9, 60
	perTurn := []int{1, 2 * 3, 16*5 + 1}
	n := 0
	for i := range askers {
		n += times * perTurn[i%3]
	}
	for _, last := range []int{0, 1, 100, n / 2, n - 2, n - 1, n, n + 1, 1<<32 - 1} {
		ask(t, askers, uint32(last), min(n, last+1), func(a *asker, i int) {
			for range times {
				a.look()
				switch i % 3 {
				case 0:
					a.next()
				case 1:
					a.many(2, 3)
				default:
					a.many(16, 5)
					a.next()
				}
			}
			a.look()
		})
	}
}

// P12.3: what one got behind what another one got stands behind it.
func TestHandedOn(t *testing.T) {
	m := mint.New(7, 100_000)
	numbers := make(chan uint32)
	go func() {
		defer close(numbers)
		for range 2000 {
			n, err := m.Next()
			if err != nil {
				t.Error(err)
			}
			numbers <- n
		}
	}()
	for earlier := range numbers {
		l, err := m.Many(2, 2)
		if err != nil || len(l) != 4 || l[0] <= earlier {
			t.Error(earlier, l, err)
		}
	}
	if n := m.Used(); n != 10_000 {
		t.Error(n)
	}
}

// P12.1: labels that are asked for first by several goroutines at once.
func TestLabelTogether(t *testing.T) {
	for pub := -150; pub <= 150; pub++ {
		m := mint.New(pub*1_000_003, 0)
		want := fmt.Sprintf("p%d", pub*1_000_003)
		together(8, func(int) {
			for range 3 {
				if s := m.Label(); s != want {
					t.Errorf("%s, not %s", s, want)
				}
			}
		})
	}
}
