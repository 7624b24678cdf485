package wire_test

import (
	"bytes"
	"math"
	"math/big"
	"math/rand"
	"testing"

	"plover/api"
	"plover/wire"
)

// bigger is a number of the oracle's kind.
func bigger(n uint64) *big.Int { return new(big.Int).SetUint64(n) }

// wantSlow fails if bytes aren't got as the slow way gets them, or if what is got isn't put as they are (P10.4).
func wantSlow(t *testing.T, b []byte) bool {
	t.Helper()
	want, wantErr := slowGet(b)
	m, err := wire.Get(b)
	if err != wantErr || !slowSame(m, want) {
		t.Fatalf("%q: %s, %v, not %s, %v", b, show(m), err, show(want), wantErr)
	}
	if err != nil {
		return false
	}
	if !wire.May(m) || !wire.Same(m, want) {
		t.Fatalf("%q: %s", b, show(m))
	}
	if again, err := wire.Put(m); err != nil || !bytes.Equal(again, b) {
		t.Fatalf("%q is put as %q, %v", b, again, err)
	}
	return true
}

// P10.2, P10.4: all short bytes, each of some that count; behind a start of each kind, too.
func TestEveryShortOne(t *testing.T) {
	some := []byte{0, 1, 2, 3, 4, 5, 16, 17, 127, 128, 129, 255}
	good := 0
	for _, start := range []string{"", "\x01\x00\x00\x00\x00\x00", "\x01\xff\xff\xff\xff\x07", "\x03\x00\x00\x00", "\x04\x01\x00\x00\x00", "\x04\x00\x00\x00\x00\x00\x01", "\x03\x00\x00\x00\x00\x02\x00\x01\x00", "\x02\xff\xff\xff"} {
		var try func(b []byte, left int)
		try = func(b []byte, left int) {
			if wantSlow(t, b) {
				good++
			}
			for _, c := range some {
				if left > 0 {
					try(append(b[:len(b):len(b)], c), left-1)
				}
			}
		}
		try([]byte(start), 4)
	}
	if good < 1000 {
		t.Error("only", good, "are messages")
	}
}

// pick is one of some.
func pick[T any](rnd *rand.Rand, l ...T) T { return l[rnd.Intn(len(l))] }

// anyWhole is a number without a sign, mostly one that may be.
func anyWhole(rnd *rand.Rand) int {
	if rnd.Intn(40) == 0 {
		return pick(rnd, -1, most+1, math.MaxInt, math.MinInt)
	}
	return pick(rnd, 0, 1, 127, 128, most, rnd.Intn(1<<rnd.Intn(32)))
}

// anyCoordinate is one that may be, mostly.
func anyCoordinate(rnd *rand.Rand) int64 {
	if rnd.Intn(60) == 0 {
		return pick[int64](rnd, edge+1, -edge-1, math.MaxInt64, math.MinInt64)
	}
	return pick(rnd, 0, 1, -1, 63, 64, -64, -65, edge, -edge, rnd.Int63n(2*edge+1)-edge)
}

// anyText is one of at most so many bytes, mostly.
func anyText(rnd *rand.Rand, most int) string {
	n := pick(rnd, 0, 1, 2, rnd.Intn(most+1), most)
	if rnd.Intn(100) == 0 {
		n = most + 1
	}
	b := make([]byte, n)
	rnd.Read(b)
	return string(b)
}

func anyAttr(rnd *rand.Rand) api.Attr {
	a := api.Attr{Name: anyText(rnd, 200), Text: rnd.Intn(2) > 0}
	odd := rnd.Intn(60) == 0
	if a.Text || odd {
		a.S = anyText(rnd, 200)
	}
	if !a.Text || odd {
		a.N = pick(rnd, 0, 1, -1, math.MaxInt64, math.MinInt64, int64(rnd.Uint64())>>rnd.Intn(64))
	}
	return a
}

func anyEvent(rnd *rand.Rand) api.Event {
	e := api.Event{Pub: anyWhole(rnd), Seq: rnd.Uint32() >> rnd.Intn(32), At: api.Point{X: anyCoordinate(rnd), Y: anyCoordinate(rnd)}}
	for range pick(rnd, 0, 1, 2, 3, 15, 16, 16+rnd.Intn(2)) {
		e.Attrs = append(e.Attrs, anyAttr(rnd))
	}
	return e
}

// anyMessage is one that may be, mostly.
func anyMessage(rnd *rand.Rand) api.Msg {
	m := api.Msg{Kind: 1 + rnd.Intn(4)}
	odd := func() bool { return rnd.Intn(100) == 0 }
	if odd() {
		m.Kind = rnd.Intn(8) - 1
	}
	if m.Kind != 3 || odd() {
		m.Sub = anyWhole(rnd)
	}
	if m.Kind < 3 || odd() {
		m.Version = anyWhole(rnd)
	}
	if m.Kind == 1 || odd() {
		m.Home = anyWhole(rnd)
		m.Filter = anyText(rnd, 500)
		m.Rect = anyBox(rnd)
	}
	if m.Kind > 2 || odd() {
		m.Event = anyEvent(rnd)
	}
	return m
}

// anyBox is a rectangle that may be, mostly.
func anyBox(rnd *rand.Rand) api.Rect {
	r := api.Rect{X1: anyCoordinate(rnd), Y1: anyCoordinate(rnd), X2: anyCoordinate(rnd), Y2: anyCoordinate(rnd)}
	if rnd.Intn(20) > 0 {
		r.X1, r.X2 = min(r.X1, r.X2), max(r.X1, r.X2)
		r.Y1, r.Y2 = min(r.Y1, r.Y2), max(r.Y1, r.Y2)
	}
	return r
}

// P10.1, P10.4: random messages may be, and are put, as the slow way tells; what was put is got as it was.
func TestAnyMessage(t *testing.T) {
	rnd := rand.New(rand.NewSource(10))
	good := 0
	for range 60000 {
		m := anyMessage(rnd)
		b, err := wire.Put(m)
		if wire.May(m) != slowMay(m) || (err == nil) != slowMay(m) {
			t.Fatalf("%v: %s", err, show(m))
		}
		if err != nil {
			if err != api.ErrArg || b != nil {
				t.Fatalf("%v, %q: %s", err, b, show(m))
			}
			continue
		}
		good++
		got, err := wire.Get(b)
		if err != nil || !wire.Same(got, m) || !slowSame(got, m) || string(b) != joined(slowParts(m)) {
			t.Fatalf("%v: %s, %s", err, show(got), show(m))
		}
	}
	if good < 20000 || good > 55000 {
		t.Error(good, "may be")
	}
}

// P10.1: whether random messages are the same, that differ in little or in nothing.
func TestAnySame(t *testing.T) {
	rnd := rand.New(rand.NewSource(11))
	l := changes()
	for range 20000 {
		seed := rnd.Int63()
		a, b := anyMessage(rand.New(rand.NewSource(seed))), anyMessage(rand.New(rand.NewSource(seed)))
		wantSame(t, a, b, true)
		l[rnd.Intn(len(l))].do(&b)
		wantSame(t, a, b, slowSame(a, b))
	}
}

// spoil changes bytes a little: one is changed, left out, doubled or put in, or the end is cut off.
func spoil(rnd *rand.Rand, b []byte) []byte {
	at := rnd.Intn(len(b))
	b = bytes.Clone(b)
	switch rnd.Intn(6) {
	case 0:
		b[at] = byte(rnd.Intn(256))
	case 1:
		b[at] ^= 1 << rnd.Intn(8)
	case 2:
		return append(b[:at:at], b[at+1:]...)
	case 3:
		return append(b[:at+1:at+1], b[at:]...)
	case 4:
		return append(append(b[:at:at], pick(rnd, byte(0), 1, 127, 128, 255)), b[at:]...)
	case 5:
		return b[:at]
	}
	return b
}

// smallMessage is one of few bytes, so that most of them are numbers' own.
func smallMessage(rnd *rand.Rand) api.Msg {
	m := anyMessage(rnd)
	m.Filter = m.Filter[:min(len(m.Filter), 3)]
	for i, a := range m.Event.Attrs {
		m.Event.Attrs[i].Name, m.Event.Attrs[i].S = a.Name[:min(len(a.Name), 2)], a.S[:min(len(a.S), 2)]
	}
	return m
}

// P10.2, P10.4: bytes of messages, spoiled at up to three places, are got as the slow way gets them.
func TestSpoiled(t *testing.T) {
	rnd := rand.New(rand.NewSource(12))
	good := 0
	for range 150000 {
		m := smallMessage(rnd)
		if rnd.Intn(8) == 0 {
			m = anyMessage(rnd)
		}
		b, err := wire.Put(m)
		if err != nil {
			continue
		}
		for range 1 + rnd.Intn(3) {
			if len(b) > 0 {
				b = spoil(rnd, b)
			}
		}
		if wantSlow(t, b) {
			good++
		}
	}
	if good < 1000 {
		t.Error("only", good, "are messages")
	}
}

// P1, P10.2, P10.4: whatever bytes are, they are got as the slow way gets them.
func FuzzGet(f *testing.F) {
	for _, m := range some() {
		f.Add([]byte(joined(slowParts(m))))
	}
	for _, s := range noNumbers() {
		f.Add([]byte("\x02" + s + "\x01"))
		f.Add([]byte("\x03\x00\x00" + s + "\x01"))
	}
	f.Fuzz(func(t *testing.T, b []byte) { wantSlow(t, b) })
}
