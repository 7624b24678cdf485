package wire_test

import (
	"math"
	"slices"
	"strings"
	"testing"
	"unsafe"

	"plover/api"
	"plover/wire"
)

// wantBoth fails if a message isn't put as those bytes, or they aren't got as that message.
func wantBoth(t *testing.T, m api.Msg, s string) {
	t.Helper()
	if b, err := wire.Put(m); err != nil || string(b) != s {
		t.Errorf("put as %q, not %q: %v, %s", b, s, err, show(m))
	}
	if got, err := wire.Get([]byte(s)); err != nil || !slowSame(got, m) {
		t.Errorf("got %s, %v, not %s: %q", show(got), err, show(m), s)
	}
}

// wantError fails if bytes aren't refused by that error itself, with a zero message (R3).
func wantError(t *testing.T, s string, want api.Code) {
	t.Helper()
	if m, err := wire.Get([]byte(s)); err != want || !slowSame(m, api.Msg{}) || m.Event.Attrs != nil {
		t.Errorf("%v, not %v: %q, %s", err, want, s, show(m))
	}
}

// greatest are messages of each kind with as many bytes as may be.
func greatest() []api.Msg {
	e := api.Event{Pub: most, Seq: all, At: api.Point{X: edge, Y: -edge}}
	for i := range 16 {
		e.Attrs = append(e.Attrs, text(long(200), long(200)))
		if i%2 > 0 {
			e.Attrs[i] = number(long(200), math.MinInt64)
		}
	}
	return []api.Msg{
		{Kind: 1, Sub: most, Version: most, Home: most, Rect: api.Rect{X1: -edge, Y1: -edge, X2: edge, Y2: edge}, Filter: long(500)},
		{Kind: 2, Sub: most, Version: most},
		{Kind: 3, Event: e},
		{Kind: 4, Sub: most, Event: e},
	}
}

// some are messages that may be, of all sorts.
func some() []api.Msg { return slices.Concat(full(), empty(), greatest()) }

// P10.2, P10.4: messages of all sorts, both ways.
func TestGet(t *testing.T) {
	for _, m := range some() {
		wantBoth(t, m, joined(slowParts(m)))
	}
	for _, c := range changes() {
		for _, m := range append(full(), empty()...) {
			c.do(&m)
			if slowMay(m) {
				wantBoth(t, m, joined(slowParts(m)))
			}
		}
	}
}

// P10.2: bytes that end ahead of each part, and within each, down to no bytes.
func TestCutOff(t *testing.T) {
	for _, m := range some() {
		s := joined(slowParts(m))
		for n := range len(s) {
			wantError(t, s[:n], api.ErrTrunc)
		}
	}
	if m, err := wire.Get(nil); err != api.ErrTrunc || !slowSame(m, api.Msg{}) {
		t.Error(m, err)
	}
}

// P10.2: bytes left behind a message, be they what they may.
func TestBytesLeft(t *testing.T) {
	for _, m := range some() {
		s := joined(slowParts(m))
		for c := range 256 {
			wantError(t, s+string([]byte{byte(c)}), api.ErrForm)
		}
		wantError(t, s+s, api.ErrForm)
		wantError(t, s+strings.Repeat("\x80", 1000), api.ErrForm)
	}
}

// P10.2: no kind but the four, whatever comes behind it, and if nothing does.
func TestKinds(t *testing.T) {
	for c := range 128 {
		if c < 1 || c > 4 {
			for _, m := range some() {
				wantError(t, string([]byte{byte(c)})+joined(slowParts(m)[1:]), api.ErrForm)
			}
			wantError(t, string([]byte{byte(c)}), api.ErrForm)
		}
	}
	// A kind of more bytes isn't judged ahead of its last one.
	for c := 128; c < 256; c++ {
		first := string([]byte{byte(c)})
		wantError(t, first, api.ErrTrunc)
		for _, last := range []string{"\x00", "\x01", "\x02", "\x7f", "\x80\x00", "\x80\x01"} {
			wantError(t, first+last, api.ErrForm)
		}
	}
	for kind := range 5 {
		wantError(t, string([]byte{byte(128 + kind), 128, 128, 128, 16, 0, 0, 0, 0, 0, 0, 0, 0}), api.ErrForm)
		wantError(t, string([]byte{byte(128 + kind), 0, 0, 0, 0, 0, 0, 0, 0, 0, 0}), api.ErrForm)
	}
}

// limit is how great a number of a piece may be; false, if it has a sign, and 64 bits.
func limit(what string) (uint64, bool) {
	switch what {
	case "kind":
		return 4, true
	case "31":
		return most, true
	case "32":
		return all, true
	case "filter":
		return 500, true
	case "text":
		return 200, true
	case "attrs":
		return 16, true
	case "tag":
		return 1, true
	}
	return 0, false
}

// noNumbers are bytes that are no number, whatever is asked for.
func noNumbers() []string {
	nine := strings.Repeat("\xff", 9)
	l := []string{"\x80\x00", "\x81\x00", "\xff\x00", "\x80\x80\x00", "\x81\x80\x00", "\xff\xff\xff\xff\xff\xff\xff\xff\x00", nine + "\x00", "\x80\x80\x80\x80\x80\x80\x80\x80\x80\x00"}
	for c := 2; c < 256; c++ {
		l = append(l, nine+string([]byte{byte(c)}))
	}
	return append(l, "\x80\x80\x80\x80\x80\x80\x80\x80\x80\x80", "\x81\x80\x80\x80\x80\x80\x80\x80\x80\x02", "\x80\x80\x80\x80\x80\x80\x80\x80\x80\x81")
}

// eachNumber calls for each number in each message, with the bytes ahead of it and those behind it.
func eachNumber(call func(what, ahead, behind string)) {
	for _, m := range some() {
		l := slowParts(m)
		for i, p := range l {
			if p.what != "bytes" {
				call(p.what, joined(l[:i]), joined(l[i+1:]))
			}
		}
	}
}

// P10.2: at each place bytes that are no number are judged by their last one: not ahead of it, and with nothing behind it.
func TestNoNumbers(t *testing.T) {
	eachNumber(func(what, ahead, behind string) {
		for _, s := range noNumbers() {
			wantError(t, ahead+s, api.ErrForm)
			wantError(t, ahead+s+behind, api.ErrForm)
			wantError(t, ahead+s[:len(s)-1], api.ErrTrunc)
			wantError(t, ahead+s[:1], api.ErrTrunc)
		}
	})
}

// P10.2: at each place a number that is too great, by one and by so much that its lowest bits may be, is judged at once.
func TestTooGreat(t *testing.T) {
	eachNumber(func(what, ahead, behind string) {
		top, bounded := limit(what)
		if !bounded {
			return
		}
		for _, n := range []uint64{top + 1, top + 2, most + 1, all, all + 1, all + 2, 1<<35 + 1, 1 << 62, 1<<62 + 1, 1 << 63, 1<<63 + 1, math.MaxUint64 - 1, math.MaxUint64} {
			if n <= top {
				continue
			}
			s := slowNumber(bigger(n))
			wantError(t, ahead+s, api.ErrForm)
			wantError(t, ahead+s+behind, api.ErrForm)
			wantError(t, ahead+s+strings.Repeat("\x00", 600), api.ErrForm)
			wantError(t, ahead+s[:len(s)-1], api.ErrTrunc)
		}
		// As great as it may be it is good: what comes next is what is missed.
		if s := slowNumber(bigger(top)); top > 0 && !isLast(ahead, what) {
			wantError(t, ahead+s, api.ErrTrunc)
		}
	})
}

// isLast tells whether a number is a retiring message's last one.
func isLast(ahead, what string) bool { return what == "31" && ahead[0] == 2 && len(ahead) > 1 }

// P10.2: a number with a sign has 64 bits at each place; where a coordinate is beyond, that is told when all has come.
func TestSignsAreWide(t *testing.T) {
	eachNumber(func(what, ahead, behind string) {
		if what != "sign" {
			return
		}
		for n, s := range signed() {
			if n > edge || n < -edge {
				_, err := wire.Get([]byte(ahead + s + behind))
				_, want := slowGet([]byte(ahead + s + behind))
				if err != want {
					t.Errorf("%q %v %q: %v, not %v", ahead, n, behind, err, want)
				}
				if len(behind) > 0 {
					wantError(t, ahead+s, api.ErrTrunc)
					wantError(t, ahead+s+behind[:len(behind)-1], api.ErrTrunc)
				}
			}
		}
	})
}

// noMessages are messages that may not be, but whose bytes can be told.
func noMessages() []api.Msg {
	var l []api.Msg
	for _, n := range []int64{edge + 1, -edge - 1, 1 << 31, 1 << 32, 1<<32 + 1, 1 << 62, math.MaxInt64, math.MinInt64} {
		for _, p := range []api.Point{{X: n}, {Y: n}, {X: n, Y: n}, {X: edge, Y: n}} {
			m, o := event(), notify()
			m.Event.At, o.Event.At = p, p
			l = append(l, m, o)
		}
		for _, r := range []api.Rect{{X1: n, X2: n}, {Y1: n, Y2: n}, {X1: n, Y1: n, X2: n, Y2: n}} {
			m := install()
			m.Rect = r
			l = append(l, m)
		}
	}
	for _, r := range []api.Rect{{X1: 1}, {Y1: 1}, {X2: -1}, {Y2: -1}, {X1: edge, Y1: -edge, X2: edge - 1, Y2: edge}, {X1: -edge, Y1: edge, X2: edge, Y2: -edge}} {
		m := install()
		m.Rect = r
		l = append(l, m, api.Msg{Kind: 1, Rect: r})
	}
	return l
}

// P10.2: bytes that are a message that may not be; cut off they are that first.
func TestMessagesThatMayNotBe(t *testing.T) {
	for _, m := range noMessages() {
		s := joined(slowParts(m))
		wantError(t, s, api.ErrForm)
		wantError(t, s+"\x00", api.ErrForm)
		for n := range len(s) {
			wantError(t, s[:n], api.ErrTrunc)
		}
	}
}

// P10.2: texts as long as they may be, and by one too long, with as many bytes as told, with fewer, with none.
func TestTexts(t *testing.T) {
	for _, c := range []struct {
		ahead, behind string
		most          int
	}{
		{"\x01\x00\x00\x00\x00\x00\x00\x00", "", 500},
		{"\x03\x00\x00\x00\x00\x01", "\x00\x00", 200},
		{"\x03\x00\x00\x00\x00\x01\x01a\x01", "", 200},
		{"\x04\x00\x00\x00\x00\x00\x02\x00\x00\x00", "\x01\x00", 200},
		{"\x04\x00\x00\x00\x00\x00\x02\x00\x00\x00\x00\x01", "", 200},
	} {
		for _, n := range []int{0, 1, 127, 128, 199, 200, 201, 255, 256, 499, 500, 501, 502, 512, 1000, 1 << 16} {
			size := slowNumber(bigger(uint64(n)))
			if n > c.most {
				wantError(t, c.ahead+size, api.ErrForm)
				wantError(t, c.ahead+size+long(n-1), api.ErrForm)
				wantError(t, c.ahead+size+long(n)+c.behind, api.ErrForm)
				continue
			}
			m, err := wire.Get([]byte(c.ahead + size + long(n) + c.behind))
			if err != nil || joined(slowParts(m)) != c.ahead+size+long(n)+c.behind {
				t.Errorf("%q, %v: %v, %s", c.ahead, n, err, show(m))
			}
			wantError(t, c.ahead+size+long(n)+c.behind+"\x00", api.ErrForm)
			if n > 0 {
				wantError(t, c.ahead+size, api.ErrTrunc)
				wantError(t, c.ahead+size+long(n-1), api.ErrTrunc)
			}
		}
	}
}

// P10.2: no, sixteen and seventeen attributes.
func TestManyAttributes(t *testing.T) {
	for n := range 40 {
		count, one := string([]byte{byte(n)}), "\x01a\x00\x02"
		for _, ahead := range []string{"\x03\x00\x00\x00\x00", "\x04\x00\x00\x00\x00\x00"} {
			s := ahead + count + strings.Repeat(one, n)
			if n > 16 {
				wantError(t, ahead+count, api.ErrForm)
				wantError(t, s, api.ErrForm)
				continue
			}
			wantBoth(t, api.Msg{Kind: int(ahead[0]), Event: api.Event{Attrs: numbers(n)}}, s)
			wantError(t, s+one, api.ErrForm)
			if n > 0 {
				wantError(t, s[:len(s)-len(one)], api.ErrTrunc)
			}
		}
	}
}

// P10.2: what comes first is told, be it behind something that may not be, or ahead of it.
func TestFirstFault(t *testing.T) {
	for _, c := range []struct {
		s    string
		want api.Code
	}{
		{"\x00\x80\x00", api.ErrForm},
		{"\x05\x80", api.ErrForm},
		{"\x85", api.ErrTrunc},
		{"\x80", api.ErrTrunc},
		{"\x82\x00", api.ErrForm},
		{"\x02\x85\x00", api.ErrForm},
		{"\x02\x85\x00\x80", api.ErrForm},
		{"\x02\x05\x80", api.ErrTrunc},
		{"\x02\x05\x80\x00", api.ErrForm},
		{"\x02\x80\x80\x80\x80\x08", api.ErrForm},
		{"\x02\x80\x80\x80\x80", api.ErrTrunc},
		{"\x02\xff\xff\xff\xff\x0f", api.ErrForm},
		{"\x02\xff\xff\xff\xff\x07", api.ErrTrunc},
		// No rectangle, and then the end; no rectangle, and then a filter too long, or one cut off.
		{"\x01\x00\x00\x00\x02\x00\x00\x00", api.ErrTrunc},
		{"\x01\x00\x00\x00\x02\x00\x00\x00\xf5\x03", api.ErrForm},
		{"\x01\x00\x00\x00\x02\x00\x00\x00\xf4\x03", api.ErrTrunc},
		{"\x01\x00\x00\x00\x02\x00\x00\x00\xf4", api.ErrTrunc},
		{"\x01\x00\x00\x00\x02\x00\x00\x00\x02a", api.ErrTrunc},
		{"\x01\x00\x00\x00\x02\x00\x00\x00\x02ab", api.ErrForm},
		// No point, and then the end, at each place.
		{"\x03\x00\x00\x82\x80\x80\x80\x08", api.ErrTrunc},
		{"\x03\x00\x00\x82\x80\x80\x80\x08\x00", api.ErrTrunc},
		{"\x03\x00\x00\x82\x80\x80\x80\x08\x00\x00", api.ErrForm},
		{"\x03\x00\x00\x82\x80\x80\x80\x08\x00\x01", api.ErrTrunc},
		{"\x03\x00\x00\x82\x80\x80\x80\x08\x00\x01\x00\x02", api.ErrForm},
		{"\x03\x00\x00\x82\x80\x80\x80\x08\x00\x01\x00\x01\x01", api.ErrTrunc},
		// Seventeen attributes, and then a number that is none, or the end.
		{"\x03\x00\x00\x00\x00\x11", api.ErrForm},
		{"\x03\x00\x00\x00\x00\x11\x80\x00", api.ErrForm},
		{"\x03\x00\x00\x00\x00\x91", api.ErrTrunc},
		{"\x03\x00\x00\x00\x00\x91\x00", api.ErrForm},
		// Neither number nor text, and then the end; a name cut off, and then what is neither.
		{"\x03\x00\x00\x00\x00\x01\x00\x02", api.ErrForm},
		{"\x03\x00\x00\x00\x00\x01\x00\x82", api.ErrTrunc},
		{"\x03\x00\x00\x00\x00\x01\x00\x81\x00", api.ErrForm},
		{"\x03\x00\x00\x00\x00\x01\x02a", api.ErrTrunc},
		{"\x03\x00\x00\x00\x00\x01\x02a\x02", api.ErrTrunc},
		{"\x03\x00\x00\x00\x00\x01\x02a\x02\x02", api.ErrForm},
		{"\x03\x00\x00\x00\x00\x01\xc9\x01", api.ErrForm},
		{"\x03\x00\x00\x00\x00\x01\xc8\x01", api.ErrTrunc},
		// A Seq of 33 bits, then the end.
		{"\x03\x00\x80\x80\x80\x80\x10", api.ErrForm},
		{"\x03\x00\xff\xff\xff\xff\x0f", api.ErrTrunc},
		{"\x03\x80\x80\x80\x80\x08", api.ErrForm},
		// A good attribute, then one that is none.
		{"\x04\x00\x00\x00\x00\x00\x02\x00\x00\x00\x00\x03", api.ErrForm},
		{"\x04\x00\x00\x00\x00\x00\x02\x00\x00\x00\x00", api.ErrTrunc},
		{"\x04\x00\x00\x00\x00\x00\x02\x00\x00\x00\x00\x01\x80\x00", api.ErrForm},
	} {
		wantError(t, c.s, c.want)
	}
}

// pieces are all memory of a message: its texts, and its list up to what it could grow to.
func pieces(m api.Msg) [][2]uintptr {
	str := func(s string) [2]uintptr {
		from := uintptr(unsafe.Pointer(unsafe.StringData(s)))
		return [2]uintptr{from, from + uintptr(len(s))}
	}
	l := [][2]uintptr{str(m.Filter)}
	for _, a := range m.Event.Attrs {
		l = append(l, str(a.Name), str(a.S))
	}
	if n := cap(m.Event.Attrs); n > 0 {
		from := uintptr(unsafe.Pointer(unsafe.SliceData(m.Event.Attrs)))
		l = append(l, [2]uintptr{from, from + uintptr(n)*unsafe.Sizeof(api.Attr{})})
	}
	return l
}

// wantApart fails if bytes share memory with pieces.
func wantApart(t *testing.T, b []byte, l [][2]uintptr) {
	t.Helper()
	from := uintptr(unsafe.Pointer(unsafe.SliceData(b)))
	for _, p := range l {
		if p[0] < p[1] && p[0] < from+uintptr(cap(b)) && from < p[1] {
			t.Error("shared memory")
		}
	}
}

// P10.3, R2: what is told is new memory, and nothing that is handed in is changed or kept.
func TestNewMemory(t *testing.T) {
	for _, m := range append(some(), noMessages()...) {
		before := told(m)
		wire.May(m)
		wire.Same(m, m)
		b, err := wire.Put(m)
		if told(m) != before {
			t.Errorf("%s was changed", show(m))
		}
		if err != nil {
			continue
		}
		wantApart(t, b, pieces(m))
		s := string(b)
		got, err := wire.Get(b)
		if err != nil || string(b) != s {
			t.Errorf("%v, %q is now %q", err, s, b)
		}
		wantApart(t, b, pieces(got))
		again, _ := wire.Get(b)
		for i := range again.Event.Attrs {
			again.Event.Attrs[i] = api.Attr{}
		}
		other, _ := wire.Put(m)
		for i := range b {
			b[i] = 'z'
		}
		if told(got) != before || string(other) != s {
			t.Errorf("%s is now %s, %q is now %q", show(m), show(got), s, other)
		}
	}
}

// P1: bytes of great length end soon, be they what they may.
func TestManyBytes(t *testing.T) {
	for _, c := range []string{"\x00", "\x01", "\x02", "\x03", "\x04", "\x7f", "\x80", "\xff"} {
		s := strings.Repeat(c, 1<<24)
		_, want := slowGet([]byte(s[:2000]))
		wantError(t, s, want.(api.Code))
	}
	m := event()
	m.Event.Attrs = slices.Repeat(m.Event.Attrs, 1<<20)
	wantMay(t, "many attributes", m, false)
	wantSame(t, m, m, true)
	wantSame(t, m, event(), false)
	long := install()
	long.Filter = strings.Repeat("a", 1<<28)
	wantMay(t, "a long filter", long, false)
}
