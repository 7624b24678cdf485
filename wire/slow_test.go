package wire_test

import (
	"math/big"
	"strings"

	"plover/api"
)

// The document's words once more, by slower means: an oracle for the tests.

// slowSame tells whether two messages are the same by a text that tells all of each.
func slowSame(a, b api.Msg) bool { return told(a) == told(b) }

// told tells all of a message; each text has its length ahead of it, so that no two messages tell the same.
func told(m api.Msg) string {
	var s strings.Builder
	num := func(n int64) { s.WriteString(big.NewInt(n).String() + ",") }
	str := func(x string) { num(int64(len(x))); s.WriteString(x) }
	for _, n := range []int64{int64(m.Kind), int64(m.Sub), int64(m.Version), int64(m.Home), m.Rect.X1, m.Rect.Y1, m.Rect.X2, m.Rect.Y2} {
		num(n)
	}
	str(m.Filter)
	for _, n := range []int64{int64(m.Event.Pub), int64(m.Event.Seq), m.Event.At.X, m.Event.At.Y, int64(len(m.Event.Attrs))} {
		num(n)
	}
	for _, a := range m.Event.Attrs {
		str(a.Name)
		if a.Text {
			s.WriteString("text")
		}
		num(a.N)
		str(a.S)
	}
	return s.String()
}

// slowMay tells whether a message may be: of each field whether it may be if it is asked for, else whether it is zero.
func slowMay(m api.Msg) bool {
	if m.Kind < 1 || m.Kind > 4 {
		return false
	}
	has := map[int]string{1: "SVHRF", 2: "SV", 3: "E", 4: "SE"}[m.Kind]
	asked := func(field string) bool { return strings.Contains(has, field) }
	ok := func(n int, field string) bool { return n == 0 || asked(field) && n > 0 && n <= 2147483647 }
	inside := func(l ...int64) bool {
		for _, n := range l {
			if n > 1073741824 || n < -1073741824 {
				return false
			}
		}
		return true
	}
	r, e := m.Rect, m.Event
	switch {
	case !ok(m.Sub, "S") || !ok(m.Version, "V") || !ok(m.Home, "H") || !ok(e.Pub, "E"):
		return false
	case r != api.Rect{} && (!asked("R") || !inside(r.X1, r.Y1, r.X2, r.Y2) || r.X1 > r.X2 || r.Y1 > r.Y2):
		return false
	case m.Filter != "" && (!asked("F") || len(m.Filter) > 500):
		return false
	case !asked("E") && (e.Seq != 0 || e.At != api.Point{} || len(e.Attrs) > 0):
		return false
	case !inside(e.At.X, e.At.Y) || len(e.Attrs) > 16:
		return false
	}
	for _, a := range e.Attrs {
		if len(a.Name) > 200 || len(a.S) > 200 || a.Text && a.N != 0 || !a.Text && a.S != "" {
			return false
		}
	}
	return true
}

// part is a piece of a message's bytes, and what it is: a number of so many bits, or a text's bytes.
type part struct {
	bytes string
	what  string // kind, 31, 32, sign, filter (its length), text (a length), attrs (how many), tag, bytes
}

// slowNumber is a number's bytes, worked out by division.
func slowNumber(n *big.Int) string {
	left, low := new(big.Int).DivMod(n, big.NewInt(128), new(big.Int))
	if left.Sign() == 0 {
		return string([]byte{byte(low.Int64())})
	}
	return string([]byte{byte(low.Int64() + 128)}) + slowNumber(left)
}

// slowSigned is 2n, or, below 0, -2n - 1.
func slowSigned(n int64) *big.Int {
	twice := new(big.Int).Mul(big.NewInt(n), big.NewInt(2))
	if n < 0 {
		return twice.Sub(twice.Neg(twice), big.NewInt(1))
	}
	return twice
}

// slowParts are the pieces of a message's bytes.
func slowParts(m api.Msg) []part {
	var l []part
	num := func(n int, what string) { l = append(l, part{slowNumber(big.NewInt(int64(n))), what}) }
	sign := func(n int64) { l = append(l, part{slowNumber(slowSigned(n)), "sign"}) }
	str := func(s, what string) { num(len(s), what); l = append(l, part{s, "bytes"}) }
	num(m.Kind, "kind")
	if m.Kind != 3 {
		num(m.Sub, "31")
	}
	if m.Kind < 3 {
		num(m.Version, "31")
	}
	if m.Kind == 1 {
		num(m.Home, "31")
		for _, n := range []int64{m.Rect.X1, m.Rect.Y1, m.Rect.X2, m.Rect.Y2} {
			sign(n)
		}
		str(m.Filter, "filter")
	}
	if m.Kind < 3 {
		return l
	}
	num(m.Event.Pub, "31")
	num(int(m.Event.Seq), "32")
	sign(m.Event.At.X)
	sign(m.Event.At.Y)
	num(len(m.Event.Attrs), "attrs")
	for _, a := range m.Event.Attrs {
		str(a.Name, "text")
		if a.Text {
			num(1, "tag")
			str(a.S, "text")
		} else {
			num(0, "tag")
			sign(a.N)
		}
	}
	return l
}

// joined is the bytes of pieces.
func joined(l []part) string {
	var s strings.Builder
	for _, p := range l {
		s.WriteString(p.bytes)
	}
	return s.String()
}

// slowReader reads numbers and texts from bytes. Where something is wrong it leaves by a panic with the error.
type slowReader struct {
	b  []byte
	at int
}

// next is the next byte.
func (r *slowReader) next() byte {
	if r.at == len(r.b) {
		panic(api.ErrTrunc)
	}
	r.at++
	return r.b[r.at-1]
}

// number reads a number of at most so many bits: it takes all its bytes, and writes them anew to see if they are few.
func (r *slowReader) number(bits int) *big.Int {
	from := r.at
	for r.next() >= 128 && r.at-from < 10 {
	}
	n := new(big.Int)
	for i := r.at - 1; i >= from; i-- {
		n.Add(n.Mul(n, big.NewInt(128)), big.NewInt(int64(r.b[i]%128)))
	}
	if r.b[r.at-1] >= 128 || n.BitLen() > bits || slowNumber(n) != string(r.b[from:r.at]) {
		panic(api.ErrForm)
	}
	return n
}

// upTo reads a number that is at most so great.
func (r *slowReader) upTo(most int) int {
	n := r.number(31).Int64()
	if n > int64(most) {
		panic(api.ErrForm)
	}
	return int(n)
}

func (r *slowReader) whole() int { return int(r.number(31).Int64()) }

// signed finds n for which 2n, or -2n - 1, is what is there.
func (r *slowReader) signed() int64 {
	half, odd := new(big.Int).DivMod(r.number(64), big.NewInt(2), new(big.Int))
	if odd.Sign() > 0 {
		half.Sub(half.Neg(half), big.NewInt(1))
	}
	return half.Int64()
}

func (r *slowReader) text(most int) string {
	var l []byte
	for range r.upTo(most) {
		l = append(l, r.next())
	}
	return string(l)
}

func (r *slowReader) event() api.Event {
	e := api.Event{Pub: r.whole()}
	e.Seq = uint32(r.number(32).Uint64())
	e.At.X = r.signed()
	e.At.Y = r.signed()
	for range r.upTo(16) {
		a := api.Attr{Name: r.text(200)}
		if r.upTo(1) == 1 {
			a.Text, a.S = true, r.text(200)
		} else {
			a.N = r.signed()
		}
		e.Attrs = append(e.Attrs, a)
	}
	return e
}

// slowGet reads a message.
func slowGet(b []byte) (m api.Msg, err error) {
	defer func() {
		if v := recover(); v != nil {
			m, err = api.Msg{}, v.(api.Code)
		}
	}()
	r := &slowReader{b: b}
	m.Kind = r.upTo(4)
	switch m.Kind {
	case 0:
		panic(api.ErrForm)
	case 1:
		m.Sub, m.Version, m.Home = r.whole(), r.whole(), r.whole()
		m.Rect = api.Rect{X1: r.signed(), Y1: r.signed(), X2: r.signed(), Y2: r.signed()}
		m.Filter = r.text(500)
	case 2:
		m.Sub, m.Version = r.whole(), r.whole()
	case 3:
		m.Event = r.event()
	case 4:
		m.Sub = r.whole()
		m.Event = r.event()
	}
	if r.at < len(b) || !slowMay(m) {
		panic(api.ErrForm)
	}
	return m, nil
}
