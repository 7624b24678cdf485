package wire_test

import (
	"bytes"
	"fmt"
	"math"
	"slices"
	"strings"
	"testing"

	"plover/api"
	"plover/wire"
)

const (
	edge = 1 << 30     // of coordinates
	most = 1<<31 - 1   // of numbers without a sign
	all  = 1<<32 - 1   // of an event's Seq
	far  = "stage:far" // a name
)

// Messages of each kind, with each field that it has not zero.

func install() api.Msg {
	return api.Msg{Kind: api.MInstall, Sub: 300, Version: 1, Home: 2, Rect: api.Rect{X1: -1, Y1: 0, X2: 64, Y2: 1}, Filter: "ab"}
}

func retire() api.Msg { return api.Msg{Kind: api.MRetire, Sub: 5, Version: 1} }

func event() api.Msg {
	return api.Msg{Kind: api.MEvent, Event: api.Event{Pub: 7, Seq: 200, At: api.Point{X: -3, Y: 128}, Attrs: []api.Attr{number("a", -5), text("", "x"), number("a", 0)}}}
}

func notify() api.Msg {
	m := event()
	m.Kind, m.Sub = api.MNotify, 9
	return m
}

// full are those messages.
func full() []api.Msg { return []api.Msg{install(), retire(), event(), notify()} }

// empty are messages of each kind with all fields zero.
func empty() []api.Msg { return []api.Msg{{Kind: 1}, {Kind: 2}, {Kind: 3}, {Kind: 4}} }

func number(name string, n int64) api.Attr { return api.Attr{Name: name, N: n} }
func text(name, s string) api.Attr         { return api.Attr{Name: name, Text: true, S: s} }

// long is a text of so many bytes.
func long(n int) string { return strings.Repeat("\xff", n) }

// numbers are so many attributes.
func numbers(n int) []api.Attr { return slices.Repeat([]api.Attr{number("a", 1)}, n) }

// show is the beginning of what a message tells.
func show(m api.Msg) string {
	s := fmt.Sprintf("%q", fmt.Sprint(m))
	return s[:min(len(s), 300)]
}

// change is what is done to a message: to one of its fields, by which kinds have it, and whether it may be then.
type change struct {
	name  string
	kinds []int
	do    func(m *api.Msg)
	may   bool
}

// numberChanges are those of one field that is a number without a sign.
func numberChanges(name string, field func(m *api.Msg) *int, kinds ...int) []change {
	var l []change
	for _, n := range []int{1, 2, 127, 128, 255, 256, 1 << 16, most - 1, most, -1, most + 1, 1 << 32, 1<<32 + 1, math.MaxInt, math.MinInt, -most, -most - 1, -1 << 32} {
		l = append(l, change{name, kinds, func(m *api.Msg) { *field(m) = n }, 0 <= n && n <= most})
	}
	return l
}

// boxChanges are those of a rectangle.
func boxChanges() []change {
	var l []change
	put := func(x1, y1, x2, y2 int64, may bool) {
		l = append(l, change{"Rect", []int{1}, func(m *api.Msg) { m.Rect = api.Rect{X1: x1, Y1: y1, X2: x2, Y2: y2} }, may})
	}
	put(0, 0, 1, 1, true)
	put(-1, -1, 0, 0, true)
	put(-1, 0, 0, 0, true)
	put(0, -1, 0, 0, true)
	put(0, 0, 1, 0, true)
	put(0, 0, 0, 1, true)
	put(3, 4, 3, 4, true)
	put(-edge, -edge, edge, edge, true)
	put(-edge, -edge, -edge, -edge, true)
	put(edge, edge, edge, edge, true)
	put(1, 0, 0, 0, false)
	put(0, 1, 0, 0, false)
	put(0, 0, -1, 0, false)
	put(0, 0, 0, -1, false)
	put(-edge-1, 0, 0, 0, false)
	put(0, -edge-1, 0, 0, false)
	put(0, 0, edge+1, 0, false)
	put(0, 0, 0, edge+1, false)
	put(math.MinInt64, math.MinInt64, math.MaxInt64, math.MaxInt64, false)
	return l
}

// eventChanges are those of an event's fields, but for Pub.
func eventChanges() []change {
	var l []change
	put := func(name string, may bool, do func(e *api.Event)) {
		l = append(l, change{name, []int{3, 4}, func(m *api.Msg) { do(&m.Event) }, may})
	}
	for _, n := range []uint32{1, 127, 128, most, most + 1, all - 1, all} {
		put("Seq", true, func(e *api.Event) { e.Seq = n })
	}
	for _, n := range []int64{1, -1, edge - 1, edge, -edge + 1, -edge, edge + 1, -edge - 1, 1 << 31, 1 << 32, 1 << 62, math.MaxInt64, math.MinInt64} {
		put("X", -edge <= n && n <= edge, func(e *api.Event) { e.At.X = n })
		put("Y", -edge <= n && n <= edge, func(e *api.Event) { e.At.Y = n })
	}
	for _, n := range []int{1, 2, 15, 16, 17, 18, 32, 1000} {
		put("Attrs", n <= 16, func(e *api.Event) { e.Attrs = numbers(n) })
	}
	for _, n := range []int64{0, 1, -1, math.MaxInt64, math.MinInt64} {
		put("N", true, func(e *api.Event) { e.Attrs = []api.Attr{number("a", n)} })
		put("N of a text", n == 0, func(e *api.Event) { e.Attrs = []api.Attr{{Text: true, N: n}} })
		put("N of the last text", n == 0, func(e *api.Event) { e.Attrs = append(numbers(15), api.Attr{Text: true, N: n, S: "x"}) })
	}
	for _, n := range []int{0, 1, 20, 21, 127, 128, 199, 200, 201, 255, 256, 1 << 16} {
		put("Name", n <= 200, func(e *api.Event) { e.Attrs = []api.Attr{number(long(n), 0)} })
		put("a text's Name", n <= 200, func(e *api.Event) { e.Attrs = []api.Attr{text(long(n), "x")} })
		put("the last Name", n <= 200, func(e *api.Event) { e.Attrs = append(numbers(15), text(long(n), "x")) })
		put("S", n <= 200, func(e *api.Event) { e.Attrs = []api.Attr{text("a", long(n))} })
		put("the last S", n <= 200, func(e *api.Event) { e.Attrs = append(numbers(15), text("a", long(n))) })
		put("S of a number", n == 0, func(e *api.Event) { e.Attrs = []api.Attr{{Name: "a", S: long(n)}} })
		put("S of the last number", n == 0, func(e *api.Event) { e.Attrs = append(numbers(15), api.Attr{N: 1, S: long(n)}) })
	}
	return l
}

// changes are those of all fields, to what isn't zero.
func changes() []change {
	l := slices.Concat(
		numberChanges("Sub", func(m *api.Msg) *int { return &m.Sub }, 1, 2, 4),
		numberChanges("Version", func(m *api.Msg) *int { return &m.Version }, 1, 2),
		numberChanges("Home", func(m *api.Msg) *int { return &m.Home }, 1),
		numberChanges("Pub", func(m *api.Msg) *int { return &m.Event.Pub }, 3, 4),
		boxChanges(), eventChanges())
	for _, n := range []int{1, 127, 128, 200, 201, 499, 500, 501, 512, 1 << 16} {
		l = append(l, change{"Filter", []int{1}, func(m *api.Msg) { m.Filter = long(n) }, n <= 500})
	}
	return l
}

// wantMay fails if a message isn't one that may be, or one that may not; then Put doesn't write it (R3).
func wantMay(t *testing.T, name string, m api.Msg, want bool) {
	t.Helper()
	if got := wire.May(m); got != want {
		t.Errorf("%s: may be %v: %s", name, got, show(m))
	}
	b, err := wire.Put(m)
	if want && (err != nil || len(b) == 0) || !want && (err != api.ErrArg || len(b) > 0) {
		t.Errorf("%s: %v, %s", name, err, show(m))
	}
}

// P10.1, May: each field at its least, its greatest and beyond, in each kind that has it, and in those that haven't.
func TestMay(t *testing.T) {
	for _, m := range append(full(), empty()...) {
		wantMay(t, "as it is", m, true)
	}
	for _, c := range changes() {
		for _, m := range append(full(), empty()...) {
			c.do(&m)
			wantMay(t, c.name, m, c.may && slices.Contains(c.kinds, m.Kind))
			if wire.May(m) != slowMay(m) {
				t.Errorf("%s: %s", c.name, show(m))
			}
		}
	}
}

// P10.1, May: fields that a kind hasn't, put back to zero one at a time, so that the last one left counts.
func TestMayNoOtherFields(t *testing.T) {
	for _, kind := range []int{1, 2, 3, 4} {
		whole := api.Msg{Kind: kind, Sub: 1, Version: 1, Home: 1, Rect: install().Rect, Filter: "a", Event: event().Event}
		wantMay(t, "all fields", whole, false)
		for _, other := range []int{1, 2, 3, 4} {
			m := full()[other-1]
			m.Kind = kind
			// A retiring message's fields are among an installing one's, an event's among a notifying one's.
			wantMay(t, "another one's fields", m, kind == other || kind == 1 && other == 2 || kind == 4 && other == 3)
		}
	}
}

// P10.1, May: lists of no elements are lists of none, be they nil or empty.
func TestMayEmptyLists(t *testing.T) {
	for _, m := range append(full(), empty()...) {
		if m.Kind == api.MInstall || m.Kind == api.MRetire || len(m.Event.Attrs) == 0 {
			m.Event.Attrs = []api.Attr{}
			wantMay(t, "no attributes", m, true)
		}
	}
	one, _ := wire.Put(api.Msg{Kind: api.MEvent})
	other, _ := wire.Put(api.Msg{Kind: api.MEvent, Event: api.Event{Attrs: []api.Attr{}}})
	if !bytes.Equal(one, other) {
		t.Error(one, other)
	}
}

// P10.1, May: no kind but the four.
func TestMayKinds(t *testing.T) {
	for _, kind := range []int{0, 5, 6, 8, -1, -4, 128, 129, 257, 1<<32 + 1, math.MaxInt, math.MinInt, math.MinInt + 1} {
		wantMay(t, "nothing but a kind", api.Msg{Kind: kind}, false)
		for _, m := range full() {
			m.Kind = kind
			wantMay(t, "another kind", m, false)
		}
	}
}

// P10.1, P10.2: the document's example, each kind, empty and full, both ways.
func TestPut(t *testing.T) {
	for _, c := range []struct {
		m    api.Msg
		want string
	}{
		{retire(), "\x02\x05\x01"},
		{install(), "\x01\xac\x02\x01\x02\x01\x00\x80\x01\x02\x02ab"},
		{event(), "\x03\x07\xc8\x01\x05\x80\x02\x03\x01a\x00\x09\x00\x01\x01x\x01a\x00\x00"},
		{notify(), "\x04\x09\x07\xc8\x01\x05\x80\x02\x03\x01a\x00\x09\x00\x01\x01x\x01a\x00\x00"},
		{api.Msg{Kind: 1}, "\x01\x00\x00\x00\x00\x00\x00\x00\x00"},
		{api.Msg{Kind: 2}, "\x02\x00\x00"},
		{api.Msg{Kind: 3}, "\x03\x00\x00\x00\x00\x00"},
		{api.Msg{Kind: 4}, "\x04\x00\x00\x00\x00\x00\x00"},
		{api.Msg{Kind: 1, Sub: 1, Version: 2, Home: 3, Rect: api.Rect{X1: 4, Y1: 5, X2: 6, Y2: 7}}, "\x01\x01\x02\x03\x08\x0a\x0c\x0e\x00"},
		{api.Msg{Kind: 1, Rect: api.Rect{X1: -4, Y1: -3, X2: -2, Y2: -1}, Filter: long(500)}, "\x01\x00\x00\x00\x07\x05\x03\x01\xf4\x03" + long(500)},
		{api.Msg{Kind: 2, Sub: most, Version: 128}, "\x02\xff\xff\xff\xff\x07\x80\x01"},
		{api.Msg{Kind: 3, Event: api.Event{Pub: 1, Seq: all, At: api.Point{X: edge, Y: -edge}}}, "\x03\x01\xff\xff\xff\xff\x0f\x80\x80\x80\x80\x08\xff\xff\xff\xff\x07\x00"},
		{api.Msg{Kind: 3, Event: api.Event{Attrs: []api.Attr{text("\x00\x80", "\n"), text(far, ""), {}, {Text: true}}}}, "\x03\x00\x00\x00\x00\x04\x02\x00\x80\x01\x01\n\x09stage:far\x01\x00\x00\x00\x00\x00\x01\x00"},
		{api.Msg{Kind: 4, Event: api.Event{Attrs: numbers(16)}}, "\x04\x00\x00\x00\x00\x00\x10" + strings.Repeat("\x01a\x00\x02", 16)},
		{api.Msg{Kind: 4, Event: api.Event{Attrs: []api.Attr{text(long(200), long(199))}}}, "\x04\x00\x00\x00\x00\x00\x01\xc8\x01" + long(200) + "\x01\xc7\x01" + long(199)},
	} {
		wantBoth(t, c.m, c.want)
	}
}

// signed are numbers with a sign, and their bytes.
func signed() map[int64]string {
	return map[int64]string{
		0: "\x00", -1: "\x01", 1: "\x02", -2: "\x03", 63: "\x7e", -64: "\x7f", 64: "\x80\x01", -65: "\x81\x01",
		8191: "\xfe\x7f", -8192: "\xff\x7f", 8192: "\x80\x80\x01", -8193: "\x81\x80\x01",
		edge: "\x80\x80\x80\x80\x08", -edge: "\xff\xff\xff\xff\x07", edge + 1: "\x82\x80\x80\x80\x08", -edge - 1: "\x81\x80\x80\x80\x08",
		1<<62 - 1: "\xfe\xff\xff\xff\xff\xff\xff\xff\x7f", -1 << 62: "\xff\xff\xff\xff\xff\xff\xff\xff\x7f",
		1 << 62: "\x80\x80\x80\x80\x80\x80\x80\x80\x80\x01", -1<<62 - 1: "\x81\x80\x80\x80\x80\x80\x80\x80\x80\x01",
		math.MaxInt64: "\xfe\xff\xff\xff\xff\xff\xff\xff\xff\x01", math.MinInt64: "\xff\xff\xff\xff\xff\xff\xff\xff\xff\x01",
		math.MaxInt64 - 1: "\xfc\xff\xff\xff\xff\xff\xff\xff\xff\x01", math.MinInt64 + 1: "\xfd\xff\xff\xff\xff\xff\xff\xff\xff\x01",
	}
}

// whole are numbers without a sign, and their bytes.
func whole() map[uint32]string {
	return map[uint32]string{
		0: "\x00", 1: "\x01", 2: "\x02", 63: "\x3f", 64: "\x40", 127: "\x7f", 128: "\x80\x01", 129: "\x81\x01", 255: "\xff\x01", 256: "\x80\x02",
		16383: "\xff\x7f", 16384: "\x80\x80\x01", 1<<21 - 1: "\xff\xff\x7f", 1 << 21: "\x80\x80\x80\x01",
		1<<28 - 1: "\xff\xff\xff\x7f", 1 << 28: "\x80\x80\x80\x80\x01", most: "\xff\xff\xff\xff\x07", most + 1: "\x80\x80\x80\x80\x08", all: "\xff\xff\xff\xff\x0f",
	}
}

// withN is an event of one attribute, and its bytes, but for N's.
func withN(n int64) (api.Msg, string) {
	return api.Msg{Kind: 3, Event: api.Event{Attrs: []api.Attr{{N: n}}}}, "\x03\x00\x00\x00\x00\x01\x00\x00"
}

// P10.1, P10.2: numbers' bytes, with a sign and without, both ways.
func TestNumbers(t *testing.T) {
	for n, s := range signed() {
		m, start := withN(n)
		wantBoth(t, m, start+s)
		if -edge <= n && n <= edge {
			wantBoth(t, api.Msg{Kind: 3, Event: api.Event{At: api.Point{X: n}}}, "\x03\x00\x00"+s+"\x00\x00")
			wantBoth(t, api.Msg{Kind: 3, Event: api.Event{At: api.Point{Y: n}}}, "\x03\x00\x00\x00"+s+"\x00")
			wantBoth(t, api.Msg{Kind: 1, Rect: api.Rect{X1: n, Y1: n, X2: n, Y2: n}}, "\x01\x00\x00\x00"+s+s+s+s+"\x00")
		}
	}
	for n, s := range whole() {
		wantBoth(t, api.Msg{Kind: 3, Event: api.Event{Seq: n}}, "\x03\x00"+s+"\x00\x00\x00")
		if n <= most {
			i := int(n)
			wantBoth(t, api.Msg{Kind: 2, Sub: i, Version: i}, "\x02"+s+s)
			wantBoth(t, api.Msg{Kind: 1, Sub: i, Version: i, Home: i}, "\x01"+s+s+s+"\x00\x00\x00\x00\x00")
			wantBoth(t, api.Msg{Kind: 3, Event: api.Event{Pub: i}}, "\x03"+s+"\x00\x00\x00\x00")
			wantBoth(t, api.Msg{Kind: 4, Sub: i}, "\x04"+s+"\x00\x00\x00\x00\x00")
		}
	}
}

// P10.1, Same: of all that messages may be changed to, it tells what the slow way tells.
func TestSame(t *testing.T) {
	for i, a := range append(full(), empty()...) {
		for j, b := range append(full(), empty()...) {
			wantSame(t, a, b, i == j)
		}
		kind := a
		kind.Kind++
		wantSame(t, a, kind, false)
		for _, c := range changes() {
			b := a
			c.do(&b)
			wantSame(t, b, b, true)
			wantSame(t, a, b, slowSame(a, b))
		}
	}
}

// wantSame fails if two are the same, or aren't, whichever comes first.
func wantSame(t *testing.T, a, b api.Msg, want bool) {
	t.Helper()
	if wire.Same(a, b) != want || wire.Same(b, a) != want {
		t.Errorf("same not %v: %s, %s", want, show(a), show(b))
	}
}

// P10.1, Same: each field by itself, of messages that may be and of those that may not.
func TestSameEachField(t *testing.T) {
	for _, f := range []func(m *api.Msg){
		func(m *api.Msg) { m.Kind++ },
		func(m *api.Msg) { m.Sub++ },
		func(m *api.Msg) { m.Version++ },
		func(m *api.Msg) { m.Home++ },
		func(m *api.Msg) { m.Rect.X1++ },
		func(m *api.Msg) { m.Rect.Y1++ },
		func(m *api.Msg) { m.Rect.X2++ },
		func(m *api.Msg) { m.Rect.Y2++ },
		func(m *api.Msg) { m.Filter += "a" },
		func(m *api.Msg) { m.Event.Pub++ },
		func(m *api.Msg) { m.Event.Seq++ },
		func(m *api.Msg) { m.Event.At.X++ },
		func(m *api.Msg) { m.Event.At.Y++ },
		func(m *api.Msg) { m.Event.Attrs = append(slices.Clone(m.Event.Attrs), api.Attr{}) },
		func(m *api.Msg) { m.Event.Attrs = m.Event.Attrs[1:] },
		func(m *api.Msg) { m.Event.Attrs = nil },
		func(m *api.Msg) { m.Event.Attrs = slices.Repeat(m.Event.Attrs, 2) },
		func(m *api.Msg) { slices.Reverse(m.Event.Attrs) },
		func(m *api.Msg) { m.Event.Attrs[0].Name += "a" },
		func(m *api.Msg) { m.Event.Attrs[0].Text = true },
		func(m *api.Msg) { m.Event.Attrs[0].N++ },
		func(m *api.Msg) { m.Event.Attrs[0].S = "x" },
		func(m *api.Msg) { m.Event.Attrs[1].Name = "a" },
		func(m *api.Msg) { m.Event.Attrs[1].Text = false },
		func(m *api.Msg) { m.Event.Attrs[1].N++ },
		func(m *api.Msg) { m.Event.Attrs[1].S = "y" },
		func(m *api.Msg) { m.Event.Attrs[1].S = "X" },
	} {
		for _, kind := range []int{-1, 0, 1, 2, 3, 4, 5, most} {
			all := func() api.Msg {
				l := []api.Attr{number("a", 1), text("b", "x")}
				return api.Msg{Kind: kind, Sub: 1, Version: -2, Home: 3, Rect: api.Rect{X1: 4, Y1: -5, X2: 6, Y2: 1 << 40}, Filter: long(600), Event: api.Event{Pub: 1, Seq: 2, At: api.Point{X: 3, Y: 4}, Attrs: l}}
			}
			a, b := all(), all()
			wantSame(t, a, b, true)
			f(&b)
			wantSame(t, a, b, false)
		}
	}
}

// P10.1, Same: a list of none is nil or empty; those of some count whole, and in their order.
func TestSameLists(t *testing.T) {
	of := func(l []api.Attr) api.Msg { return api.Msg{Kind: 3, Event: api.Event{Attrs: l}} }
	wantSame(t, of(nil), of([]api.Attr{}), true)
	wantSame(t, of(nil), of(numbers(3)[:0]), true)
	wantSame(t, of(numbers(3)), of(numbers(5)[:3]), true)
	wantSame(t, of(numbers(1000)), of(numbers(1000)), true)
	wantSame(t, of(numbers(1000)), of(append(numbers(999), number("a", 2))), false)
	wantSame(t, of([]api.Attr{{}}), of(nil), false)
	wantSame(t, of([]api.Attr{number("a", 1), number("b", 2)}), of([]api.Attr{number("b", 2), number("a", 1)}), false)
}
