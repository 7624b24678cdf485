package mint_test

import (
	"fmt"
	"math"
	"math/rand"
	"slices"
	"testing"

	"plover/api"
	"plover/mint"
)

// model is a mint that counts what it has left.
type model struct {
	next, left uint64
}

func newModel(last uint32) *model { return &model{left: uint64(last) + 1} }

// take takes so many numbers, or those that are left.
func (m *model) take(n int) ([]uint32, error) {
	var l []uint32
	for len(l) < n && m.left > 0 {
		l = append(l, uint32(m.next))
		m.next++
		m.left--
	}
	if len(l) < n {
		return l, api.ErrFull
	}
	return l, nil
}

// both is a mint, and what it has to be like.
type both struct {
	t *testing.T
	m *mint.Mint
	w *model
}

func newBoth(t *testing.T, pub int, last uint32) both {
	return both{t, mint.New(pub, last), newModel(last)}
}

// next asks for the next one, and fails if it isn't that.
func (b both) next() {
	b.t.Helper()
	want, wantErr := b.w.take(1)
	want = append(want, 0)
	if n, err := b.m.Next(); n != want[0] || err != wantErr {
		b.t.Fatalf("%d, %v, not %d, %v", n, err, want[0], wantErr)
	}
	b.used()
}

// many asks for many, and fails if it isn't those.
func (b both) many(workers, each int) []uint32 {
	b.t.Helper()
	want, wantErr := []uint32(nil), error(api.ErrArg)
	if workers >= 1 && workers <= 64 && each >= 1 && each <= 64 {
		want, wantErr = b.w.take(workers * each)
	}
	l, err := b.m.Many(workers, each)
	if !slices.Equal(l, want) || err != wantErr {
		b.t.Fatalf("%d, %d: %v, %v, not %v, %v", workers, each, l, err, want, wantErr)
	}
	b.used()
	return l
}

// used asks how many were handed out, twice.
func (b both) used() {
	b.t.Helper()
	for range 2 {
		if n := b.m.Used(); n != b.w.next {
			b.t.Fatalf("used: %d, not %d", n, b.w.next)
		}
	}
}

// full asks a mint that is used up, again and again.
func (b both) full() {
	b.t.Helper()
	if b.w.left != 0 {
		b.t.Fatal("it has some left")
	}
	for range 5 {
		b.next()
		b.many(1, 1)
		b.many(64, 64)
		b.many(0, 1)
		b.many(1, 65)
	}
	for range 300 {
		b.next()
	}
}

// P12.1: numbers from 0 on up to the last one, and ErrFull behind it, again and again.
func TestNext(t *testing.T) {
	for _, last := range []uint32{0, 1, 2, 3, 63, 64, 99, 255, 256, 65535, 65536} {
		b := newBoth(t, 7, last)
		b.used()
		for range uint64(last) + 1 {
			b.next()
		}
		b.full()
	}
}

// P12.1: the first ones of great last numbers, and how many were handed out.
func TestNextOfMany(t *testing.T) {
	for _, last := range []uint32{1<<31 - 2, 1<<31 - 1, 1 << 31, 1<<32 - 2, 1<<32 - 1} {
		b := newBoth(t, 7, last)
		b.used()
		for range 5000 {
			b.next()
		}
	}
}

// upTo asks for next ones up to a number, that isn't among them, without the model's being asked for each.
func (b both) upTo(end uint64) {
	b.t.Helper()
	for want := b.w.next; want < end; want++ {
		n, err := b.m.Next()
		if uint64(n) != want || err != nil {
			b.t.Fatalf("%d, %v, not %d", n, err, want)
		}
		if want%(1<<20) == 0 && b.m.Used() != want+1 {
			b.t.Fatalf("used: %d, not %d", b.m.Used(), want+1)
		}
	}
	b.w.left -= end - b.w.next
	b.w.next = end
	b.used()
}

// P12.1, P12.2, P12.3: all numbers that there are, up to the greatest last one.
func TestGreatestLast(t *testing.T) {
	if testing.Short() {
		t.Skip("four thousand million numbers, from one goroutine")
	}
	t.Parallel()
	b := newBoth(t, 7, math.MaxUint32)
	b.upTo(1<<31 - 2000)
	b.many(64, 64)
	b.upTo(1<<32 - 64*64 - 63)
	b.many(64, 64)
	for range 30 {
		b.next()
	}
	if l := b.many(2, 17); len(l) != 33 || l[32] != 4294967295 {
		t.Error(l)
	}
	if n := b.m.Used(); n != 4294967296 {
		t.Error(n)
	}
	b.full()
}

// P12.1: labels, asked for more than once, and whatever else is asked.
func TestLabel(t *testing.T) {
	for pub, want := range map[int]string{
		0: "p0", 1: "p1", 7: "p7", 9: "p9", 10: "p10", 64: "p64", 99: "p99", 100: "p100", 1234567890: "p1234567890", 1 << 32: "p4294967296",
		-1: "p-1", -7: "p-7", -9: "p-9", -10: "p-10", -100: "p-100", -1234567890: "p-1234567890",
		math.MaxInt: "p9223372036854775807", math.MaxInt - 1: "p9223372036854775806",
		math.MinInt: "p-9223372036854775808", math.MinInt + 1: "p-9223372036854775807",
	} {
		for _, last := range []uint32{0, 5, math.MaxUint32} {
			b := newBoth(t, pub, last)
			for range 3 {
				if s := b.m.Label(); s != want {
					t.Errorf("%s, not %s", s, want)
				}
				b.used()
				b.next()
				b.many(2, 2)
			}
			late := newBoth(t, pub, last)
			late.many(3, 3)
			if s := late.m.Label(); s != want {
				t.Errorf("%s, not %s", s, want)
			}
			late.used()
		}
	}
}

// P12.1: labels of random publishers.
func TestLabelRandom(t *testing.T) {
	rnd := rand.New(rand.NewSource(1))
	for range 2000 {
		pub := int(rnd.Uint64()) >> rnd.Intn(64)
		if s := mint.New(pub, 3).Label(); s != fmt.Sprintf("p%d", pub) {
			t.Errorf("%d: %s", pub, s)
		}
	}
}

// The document's example.
func TestExample(t *testing.T) {
	l, err := mint.New(7, 99).Many(2, 3)
	if !slices.Equal(l, []uint32{0, 1, 2, 3, 4, 5}) || err != nil {
		t.Error(l, err)
	}
}

// P12.2: all numbers of workers, and of how often each asks, of a mint that has more, just as many, one too few, and one.
func TestMany(t *testing.T) {
	for workers := 1; workers <= 64; workers++ {
		for each := 1; each <= 64; each++ {
			n := uint32(workers * each)
			newBoth(t, 7, math.MaxUint32).many(workers, each)
			b := newBoth(t, 7, n-1)
			b.many(workers, each)
			b.next()
			if n > 1 {
				newBoth(t, 7, n-2).many(workers, each)
			}
			if each%16 == 1 {
				newBoth(t, 7, n).many(workers, each)
				newBoth(t, 7, 0).many(workers, each)
			}
		}
	}
}

// P12.2: how many are left, about how many are asked for, behind some that were handed out.
func TestManyLeft(t *testing.T) {
	for _, size := range [][2]int{{1, 1}, {1, 2}, {2, 1}, {1, 64}, {64, 1}, {2, 3}, {8, 10}, {63, 64}, {64, 63}, {64, 64}} {
		n := size[0] * size[1]
		for _, used := range []int{0, 1, 2, 63, 64, 65, 4096, 4097} {
			for _, left := range []int{0, 1, 2, n - 2, n - 1, n, n + 1, 2*n - 1, 2 * n, 2*n + 1} {
				if left < 0 || used+left < 1 {
					continue
				}
				b := newBoth(t, 7, uint32(used+left-1))
				for range used {
					b.next()
				}
				for range 3 {
					b.many(size[0], size[1])
				}
				b.next()
			}
		}
	}
}

// P12.2: several times in turn, with Next between.
func TestManyInTurn(t *testing.T) {
	for _, last := range []uint32{0, 1, 4, 4095, 4096, 8999, 9999, 10000} {
		b := newBoth(t, -3, last)
		for range 8 {
			b.many(1, 1)
			b.next()
			b.many(8, 10)
			b.many(64, 64)
			b.next()
			b.next()
			b.many(3, 1)
		}
		b.full()
	}
}

// wrongs are numbers of workers that may not be.
func wrongs() []int {
	return []int{0, -1, -2, -63, -64, -65, 65, 66, 127, 128, 129, 192, 255, 256, 257, 320, 1000, math.MinInt, math.MinInt + 1, math.MaxInt, math.MaxInt - 1,
		1 << 16, 1<<16 + 1, 1<<31 - 1, 1 << 31, 1<<31 + 1, 1<<32 - 1, 1 << 32, 1<<32 + 1, 1<<32 + 64, -1 << 32, -1<<32 + 1, 1 - 1<<63}
}

// P12.2, R1, R3: ErrArg, and nothing is handed out, of a new mint, of one that has handed some out, and of one that is used up.
func TestManyWrong(t *testing.T) {
	for _, used := range []int{0, 1, 99, 100} {
		b := newBoth(t, 7, 99)
		for range used {
			b.next()
		}
		for _, wrong := range wrongs() {
			for _, right := range []int{1, 2, 63, 64} {
				b.many(wrong, right)
				b.many(right, wrong)
			}
			for _, other := range wrongs() {
				b.many(wrong, other)
			}
		}
		b.next()
		b.many(3, 4)
	}
}

// P12.2, P12.3: random calls, of mints with random last numbers.
func TestTurns(t *testing.T) {
	rnd := rand.New(rand.NewSource(2))
	for range 400 {
		b := newBoth(t, rnd.Int(), uint32(rnd.Intn(1<<rnd.Intn(16))))
		for range 1 + rnd.Intn(40) {
			switch rnd.Intn(4) {
			case 0:
				b.many(1+rnd.Intn(64), 1+rnd.Intn(64))
			case 1:
				b.many(rnd.Intn(80)-8, rnd.Intn(80)-8)
			default:
				b.next()
			}
		}
	}
}

// Mints of one publisher, and of others, have nothing to do with each other.
func TestMintsApart(t *testing.T) {
	a, b, c := newBoth(t, 7, 50), newBoth(t, 7, 50), newBoth(t, 8, 2)
	for range 10 {
		a.next()
		b.many(2, 3)
		c.next()
		a.many(1, 5)
		a.used()
		b.used()
		c.used()
	}
	if a.m.Label() != "p7" || b.m.Label() != "p7" || c.m.Label() != "p8" {
		t.Error(a.m.Label(), b.m.Label(), c.m.Label())
	}
}

// R2: lists that were told are new memory, with what stands behind them.
func TestManyMemory(t *testing.T) {
	b := newBoth(t, 7, 9999)
	var lists, want [][]uint32
	for n := range 40 {
		l := b.many(1+n%7, 1+n*5%64)
		lists, want = append(lists, l), append(want, slices.Clone(l))
	}
	for i, l := range lists {
		if !slices.Equal(l, want[i]) {
			t.Fatal(i, "two lists share memory")
		}
		l = l[:cap(l)]
		for k := range l {
			l[k] = 123456789
		}
	}
	b.many(5, 5)
	b.next()
}

// play plays calls: one byte is Next, or two of them are Many.
func play(b both, calls []byte) {
	for len(calls) > 1 {
		if calls[0] < 128 {
			b.next()
			calls = calls[1:]
			continue
		}
		b.many(int(calls[0])-130, int(calls[1])-3)
		calls = calls[2:]
	}
}

// P12.1, P12.2, P12.3: calls, against the model.
func FuzzMint(f *testing.F) {
	f.Add(7, uint32(99), []byte{1, 138, 13, 2, 138, 13, 1, 1})
	f.Add(-7, uint32(0), []byte{131, 4, 1, 130, 4, 195, 67, 131, 68, 1})
	f.Add(0, uint32(math.MaxUint32), []byte{194, 67, 1, 194, 67, 1})
	f.Fuzz(func(t *testing.T, pub int, last uint32, calls []byte) {
		b := newBoth(t, pub, last)
		play(b, calls[:min(len(calls), 100)])
		if s := b.m.Label(); s != fmt.Sprintf("p%d", pub) {
			t.Error(s)
		}
	})
}
