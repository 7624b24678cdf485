package filter_test

import (
	"math"
	"slices"
	"strings"
	"testing"

	"plover/api"
	"plover/filter"
)

// Filters as the tables tell them.

func and(l ...api.Filter) api.Filter { return api.Filter{Kind: api.FAnd, L: l} }
func or(l ...api.Filter) api.Filter  { return api.Filter{Kind: api.FOr, L: l} }
func not(f api.Filter) api.Filter    { return api.Filter{Kind: api.FNot, L: []api.Filter{f}} }
func always() api.Filter             { return api.Filter{Kind: api.FTrue} }

func compare(name, op string, v api.Attr) api.Filter {
	return api.Filter{Kind: api.FCmp, Name: name, Op: op, Vals: []api.Attr{v}}
}

func pre(name, s string) api.Filter {
	return api.Filter{Kind: api.FPre, Name: name, Vals: []api.Attr{text(s)}}
}

func in(name string, l ...api.Attr) api.Filter {
	return api.Filter{Kind: api.FIn, Name: name, Vals: l}
}

func number(n int64) api.Attr { return api.Attr{N: n} }
func text(s string) api.Attr  { return api.Attr{Text: true, S: s} }

// is is a = n.
func is(n int64) api.Filter { return compare("a", "=", number(n)) }

// nots is a filter within so many nots.
func nots(n int, f api.Filter) api.Filter {
	for range n {
		f = not(f)
	}
	return f
}

// times is a list of one filter, so many times.
func times(n int, f api.Filter) []api.Filter { return slices.Repeat([]api.Filter{f}, n) }

// numbers are those from 1 to n.
func numbers(n int) []api.Attr {
	var l []api.Attr
	for i := range n {
		l = append(l, number(int64(i+1)))
	}
	return l
}

// texts are so many.
func texts(n int) []api.Attr {
	var l []api.Attr
	for i := range n {
		l = append(l, text(strings.Repeat("x", i)))
	}
	return l
}

// bytesOf is a text of n times one byte.
func bytesOf(c byte, n int) string { return strings.Repeat(string([]byte{c}), n) }

// ops are all that compare.
func ops() []string { return []string{"<", "<=", "=", "!=", ">=", ">"} }

// words are those that are no names.
func words() []string { return []string{"and", "or", "not", "in", "true"} }

// leaves are filters without parts that may be, of each kind.
func leaves() []api.Filter {
	return []api.Filter{is(5), compare("b", "!=", text("x")), pre("c", "y"), in("d", numbers(3)...), in("e", texts(2)...), always()}
}

// holders are filters that have one filter as a part, at each place there may be one.
func holders(f api.Filter) []api.Filter {
	return []api.Filter{
		not(f), and(f, is(1)), and(is(1), f), or(f, is(1)), or(is(1), f),
		and(is(1), is(2), f), not(not(f)), or(and(is(1), not(f)), always()), and(is(1), or(is(2), not(f))),
	}
}

// wantMay fails if one of the filters may not be.
func wantMay(t *testing.T, l ...api.Filter) {
	t.Helper()
	for _, f := range l {
		if !filter.May(f) {
			t.Errorf("%v may not be", f)
		}
		if s, err := filter.Text(f); err != nil || s == "" {
			t.Errorf("%v has no text: %q, %v", f, s, err)
		}
	}
}

// wantMayNot fails if one of the filters may be, or has a text (R3).
func wantMayNot(t *testing.T, l ...api.Filter) {
	t.Helper()
	for _, f := range l {
		if filter.May(f) {
			t.Errorf("%v may be", f)
		}
		if s, err := filter.Text(f); err != api.ErrArg || s != "" {
			t.Errorf("%v has the text %q, %v", f, s, err)
		}
	}
}

// wantMayNotAnywhere fails if a filter may be, or if one may that it is a part of.
func wantMayNotAnywhere(t *testing.T, l ...api.Filter) {
	t.Helper()
	for _, f := range l {
		wantMayNot(t, f)
		wantMayNot(t, holders(f)...)
	}
}

// wantRead fails if a text isn't read as a filter.
func wantRead(t *testing.T, s string, want api.Filter) {
	t.Helper()
	if f, err := filter.Read(s); err != nil || !same(f, want) {
		t.Errorf("%q is read as %v, %v, not %v", s, f, err, want)
	}
}

// wantRefused fails if a text isn't refused by an error itself, with no filter (R3).
func wantRefused(t *testing.T, want api.Code, l ...string) {
	t.Helper()
	for _, s := range l {
		if f, err := filter.Read(s); err != want || !same(f, api.Filter{}) {
			t.Errorf("%q is read as %v, %v, not refused by %v", s, f, err, want)
		}
	}
}

// same tells, in this file's own way, whether two filters are the same.
func same(a, b api.Filter) bool {
	if a.Kind != b.Kind || a.Name != b.Name || a.Op != b.Op || len(a.Vals) != len(b.Vals) || len(a.L) != len(b.L) {
		return false
	}
	for i := range a.Vals {
		if a.Vals[i] != b.Vals[i] {
			return false
		}
	}
	for i := range a.L {
		if !same(a.L[i], b.L[i]) {
			return false
		}
	}
	return true
}

// P7.1: a filter of each kind may be, by itself and as a part.
func TestMay(t *testing.T) {
	for _, f := range leaves() {
		wantMay(t, f)
		wantMay(t, holders(f)...)
	}
	wantMay(t, and(or(is(1), is(2)), or(is(3), and(is(4), is(5)))), or(and(is(1), is(2)), and(is(3), is(4))), not(and(is(1), is(2))), not(or(is(1), is(2))))
	wantMay(t, and(is(1), is(1)), or(always(), always(), always()), not(not(always())), and(not(and(is(1), is(2))), is(3)), or(not(or(is(1), is(2))), is(3)))
	wantMay(t, and(is(1), not(and(is(2), is(3)))), and(is(1), or(and(is(2), is(3)), is(4))))
}

// P7.1: lists of no elements may be told as nil or as empty.
func TestEmptyLists(t *testing.T) {
	for _, f := range leaves() {
		f.L = []api.Filter{}
		wantMay(t, f)
	}
	none := []api.Attr{}
	for _, f := range []api.Filter{and(is(1), is(2)), or(is(1), is(2)), not(is(1)), always()} {
		g := f
		g.Vals = none
		wantMay(t, g)
		if !filter.Same(f, g) || !filter.Same(g, f) {
			t.Error(f, "isn't the same with an empty list")
		}
	}
}

// P7.1: two or more parts of an FAnd or FOr, one of a not, none of others.
func TestPartsOfEachKind(t *testing.T) {
	for n := range 8 {
		parts := times(n, is(1))
		for kind, may := range map[int]bool{api.FAnd: n >= 2, api.FOr: n >= 2, api.FNot: n == 1, api.FTrue: n == 0} {
			f := api.Filter{Kind: kind, L: parts}
			if may {
				wantMay(t, f)
			} else {
				wantMayNotAnywhere(t, f)
			}
		}
		if n == 0 {
			continue
		}
		for _, f := range leaves() {
			f.L = parts
			wantMayNotAnywhere(t, f)
		}
	}
}

// P7.1: how many values there are of each kind.
func TestValuesOfEachKind(t *testing.T) {
	for n := range 25 {
		for _, vals := range [][]api.Attr{numbers(n), texts(n)} {
			for _, f := range []api.Filter{
				{Kind: api.FCmp, Name: "a", Op: "<", Vals: vals},
				{Kind: api.FPre, Name: "a", Vals: vals},
				{Kind: api.FIn, Name: "a", Vals: vals},
			} {
				may := n == 1
				if f.Kind == api.FPre {
					may = n == 1 && vals[0].Text
				}
				if f.Kind == api.FIn {
					may = 1 <= n && n <= 20
				}
				if may {
					wantMay(t, f)
				} else {
					wantMayNotAnywhere(t, f)
				}
			}
		}
	}
	wantMayNot(t, in("a", numbers(1000)...), in("a", texts(1000)...))
}

// P7.1: a field that must be empty, and isn't.
func TestFieldsThatMustBeEmpty(t *testing.T) {
	for _, f := range []api.Filter{and(is(1), is(2)), or(is(1), is(2)), not(is(1)), always()} {
		for _, name := range []string{"a", " ", "and", "A"} {
			g := f
			g.Name = name
			wantMayNotAnywhere(t, g)
		}
		for _, op := range []string{"=", "and", "or", "not", "true", " "} {
			g := f
			g.Op = op
			wantMayNotAnywhere(t, g)
		}
		for _, vals := range [][]api.Attr{{{}}, {number(1)}, {text("x")}, {text("")}, numbers(2)} {
			g := f
			g.Vals = vals
			wantMayNotAnywhere(t, g)
		}
	}
	for _, op := range []string{"^=", "=", "in", " ", "<"} {
		for _, f := range []api.Filter{pre("a", "x"), in("a", number(1)), in("a", text("x"))} {
			f.Op = op
			wantMayNotAnywhere(t, f)
		}
	}
}

// P7.1: just six signs compare.
func TestOps(t *testing.T) {
	for _, op := range ops() {
		wantMay(t, compare("a", op, number(1)), compare("a", op, text("x")))
	}
	for _, op := range []string{"", "^=", "==", "<>", "=<", "=>", "!", "^", "(", ")", ",", "in", "and", " <", "< ", "<= ", "a", "5", "≤", "=\x00", "<=="} {
		wantMayNotAnywhere(t, compare("a", op, number(1)), compare("a", op, text("x")))
	}
}

// P7.1: no part of an FAnd is one, and none of an FOr, at whatever place.
func TestPartsOfTheirOwnSort(t *testing.T) {
	for _, join := range []func(l ...api.Filter) api.Filter{and, or} {
		own := join(is(1), is(2))
		wantMayNotAnywhere(t, join(own, is(3)), join(is(3), own), join(own, own), join(is(3), own, is(4)), join(is(1), is(2), is(3), own))
		wantMayNotAnywhere(t, join(always(), join(own, is(3))))
		// With another one between them it is well.
		wantMay(t, join(not(own), is(3)), join(is(3), not(own)))
	}
	wantMay(t, and(or(is(1), is(2)), or(is(1), is(2))), or(and(is(1), is(2)), and(is(1), is(2))))
	wantMay(t, and(or(and(is(1), is(2)), is(3)), is(4)), or(and(or(is(1), is(2)), is(3)), is(4)))
}

// P7.1: kinds that there are none of, with all that a filter may have.
func TestNoKinds(t *testing.T) {
	for _, kind := range []int{0, -1, 8, 9, 15, 255, 256, 257, 1 << 32, 1<<32 + 7, math.MaxInt, math.MinInt} {
		wantMayNotAnywhere(t, api.Filter{Kind: kind})
		for _, f := range slices.Concat(leaves(), []api.Filter{and(is(1), is(2)), not(is(1))}) {
			f.Kind = kind
			wantMayNotAnywhere(t, f)
		}
	}
}

// named are filters of each kind that has a name.
func named(name string) []api.Filter {
	return []api.Filter{compare(name, "<", number(1)), pre(name, "x"), in(name, number(1), number(2))}
}

// P7.1: names are layer 6's, of 1 to 20 bytes.
func TestNames(t *testing.T) {
	for _, s := range []string{"a", "z", "a0", "z9", "a5z", "ab12cd34", "android", "order", "inn", "truer", bytesOf('a', 19), bytesOf('z', 20), "a" + bytesOf('9', 19)} {
		wantMay(t, named(s)...)
	}
	for _, s := range slices.Concat(words(), []string{
		"", " ", "A", "aB", "5", "5a", "-5", "_", "a_b", "a.b", "a-b", " a", "a ", "a b", "  a  ", "a<", "(a)", "a,b", `"a"`, "=", "é", "aé", "a\x00", "a\t", "a\n", "\xff",
		bytesOf('a', 21), bytesOf('a', 500), bytesOf('a', 501), bytesOf(' ', 500), bytesOf(' ', 499) + "a", bytesOf('a', 1<<20),
	}) {
		wantMayNotAnywhere(t, named(s)...)
	}
}

// withText are filters of each kind that may have a text as a value.
func withText(s string) []api.Filter {
	return []api.Filter{
		compare("a", "=", text(s)), compare("a", "<", text(s)), pre("a", s), in("a", text(s)),
		in("a", text(s), text("x")), in("a", text("x"), text(s)), in("a", append(texts(19), text(s))...),
	}
}

// P7.1: texts have 0 to 200 bytes.
func TestTextsOfValues(t *testing.T) {
	for _, s := range []string{"", "x", " ", "a b", "and", "5", "(", "\\", "'", bytesOf('x', 199), bytesOf('x', 200), bytesOf(' ', 200), bytesOf('~', 200)} {
		wantMay(t, withText(s)...)
	}
	for _, s := range []string{`"`, `""`, `x"y`, `" "`, `" = "`, `x", "y`, "é", "x\n", "\x00", bytesOf('x', 201), bytesOf('x', 500), bytesOf('x', 501), bytesOf('x', 1<<20)} {
		wantMayNotAnywhere(t, withText(s)...)
	}
}

// P7.1: just the bytes from 32 to 126 but " may stand in a text, wherever in it.
func TestBytesOfTexts(t *testing.T) {
	for c := range 256 {
		b := bytesOf(byte(c), 1)
		for _, s := range []string{b, b + "xy", "x" + b + "y", "xy" + b, bytesOf('x', 199) + b, b + bytesOf('x', 199)} {
			if 32 <= c && c <= 126 && c != '"' {
				wantMay(t, withText(s)...)
			} else {
				wantMayNot(t, withText(s)...)
			}
		}
	}
}

// withValue are filters of each kind that may have a value.
func withValue(v api.Attr) []api.Filter {
	return []api.Filter{
		compare("a", "=", v), in("a", v), in("a", v, v), {Kind: api.FPre, Name: "a", Vals: []api.Attr{v}},
		in("a", number(1), v), in("a", v, number(1)), in("a", text("x"), v), in("a", v, text("x")),
	}
}

// P7.1: values have no names, a number no S, a text no N.
func TestFieldsOfValues(t *testing.T) {
	for _, n := range []int64{0, 1, -1, math.MaxInt64, math.MinInt64} {
		wantMay(t, compare("a", "=", number(n)), in("a", number(n)), in("a", number(1), number(n)))
		for _, s := range []string{"x", " ", "5", `"`, bytesOf('x', 201)} {
			wantMayNotAnywhere(t, withValue(api.Attr{N: n, S: s})...)
		}
		for _, s := range []string{"", "x", "5"} {
			if n != 0 {
				wantMayNotAnywhere(t, withValue(api.Attr{Text: true, N: n, S: s})...)
			}
		}
	}
	for _, name := range []string{"a", "b", " ", "and", "5", bytesOf('a', 21)} {
		wantMayNotAnywhere(t, withValue(api.Attr{Name: name})...)
		wantMayNotAnywhere(t, withValue(api.Attr{Name: name, N: 5})...)
		wantMayNotAnywhere(t, withValue(api.Attr{Name: name, Text: true, S: "x"})...)
	}
}

// P7.1: an FIn's values are all numbers, or all texts, wherever another one stands; an FPre's is a text.
func TestSortsOfValues(t *testing.T) {
	for n := 2; n <= 20; n++ {
		for i := range n {
			l := numbers(n)
			l[i] = text("x")
			wantMayNot(t, in("a", l...))
			l = texts(n)
			l[i] = number(5)
			wantMayNot(t, in("a", l...))
		}
	}
	wantMayNotAnywhere(t, in("a", number(0), text("")), in("a", text(""), number(0)))
	wantMayNotAnywhere(t, api.Filter{Kind: api.FPre, Name: "a", Vals: []api.Attr{number(0)}}, api.Filter{Kind: api.FPre, Name: "a", Vals: []api.Attr{number(5)}})
	wantMay(t, in("a", number(5), number(5)), in("a", text("x"), text("x")), in("a", text("")), in("a", number(0)))
}

// layers are ands and ors about a filter, by turns, so many.
func layers(n int, f api.Filter) api.Filter {
	for i := range n {
		if i%2 == 0 {
			f = and(f, always())
		} else {
			f = or(always(), f)
		}
	}
	return f
}

// P7.1: 10 deep is well, 11 isn't, be it by nots, ands or ors, on whichever side.
func TestDeep(t *testing.T) {
	for _, f := range leaves() {
		for _, deeper := range []func(n int, f api.Filter) api.Filter{nots, layers} {
			wantMay(t, deeper(0, f), deeper(1, f), deeper(8, f), deeper(9, f))
			wantMayNot(t, deeper(10, f), deeper(11, f), deeper(12, f), deeper(100, f))
			// One part that is too deep is enough, ahead of others or behind.
			wantMay(t, and(not(deeper(7, f)), is(1)), or(is(1), not(deeper(7, f))))
			wantMayNot(t, and(not(deeper(8, f)), is(1)), or(is(1), not(deeper(8, f))))
		}
	}
}

// P7.1: 60 nodes are well, 61 aren't, however they stand.
func TestNodes(t *testing.T) {
	for _, join := range []func(l ...api.Filter) api.Filter{and, or} {
		for _, f := range leaves() {
			wantMay(t, join(times(58, f)...), join(times(59, f)...))
			wantMayNot(t, join(times(60, f)...), join(times(61, f)...), join(times(5000, f)...))
			// A not is a node, too: 1 + 29*2 + 1.
			wantMay(t, join(append(times(29, not(f)), f)...))
			wantMayNot(t, join(append(times(29, not(f)), f, f)...), join(append(times(29, not(f)), not(f))...))
		}
	}
	// 1 + 4*(1 + 13) + 3 are 60.
	thirteen := or(times(13, is(1))...)
	l := append(times(4, thirteen), times(3, is(2))...)
	wantMay(t, and(l...))
	wantMayNot(t, and(append(l, is(3))...), not(and(l...)), and(append(l[:6:6], not(is(2)))...))
	// Deep, and with as many nodes as may be: 9 layers of 2, and a leaf, are 19.
	wantMay(t, and(append(times(3, layers(8, always())), times(8, is(1))...)...))
	wantMayNot(t, and(append(times(3, layers(8, always())), times(9, is(1))...)...))
}

// P1: a filter that is deep, or great, or that has its own memory as a part many times, is no harm.
func TestGreatFilters(t *testing.T) {
	deep := nots(1<<16-1, is(1))
	wide := and(times(1<<20, is(1))...)
	doubled := is(1)
	for range 40 {
		doubled = and(doubled, doubled)
	}
	values := in("a", make([]api.Attr, 1<<20)...)
	for _, f := range []api.Filter{deep, wide, doubled, values, not(wide), or(is(1), deep)} {
		if s, err := filter.Text(f); filter.May(f) || err != api.ErrArg || s != "" {
			t.Error("a filter that is too great has the text", s, err)
		}
	}
	for _, f := range []api.Filter{deep, wide, values} {
		if !filter.Same(f, f) || filter.Same(f, not(f)) || filter.Same(not(f), f) || filter.Same(f, is(1)) {
			t.Error("a great filter isn't the same")
		}
	}
	if filter.Same(deep, nots(1<<16-1, is(2))) || filter.Same(wide, and(append(times(1<<20-1, is(1)), is(2))...)) {
		t.Error("filters that differ far off are the same")
	}
}

// P7.1: texts of filters of each kind.
func TestText(t *testing.T) {
	for _, c := range []struct {
		f    api.Filter
		want string
	}{
		{always(), "true"},
		{compare("a", "<", number(5)), "a < 5"},
		{compare("a", "=", text("x")), `a = "x"`},
		{pre("a", "x"), `a ^= "x"`},
		{in("a", number(1), number(2)), "a in (1, 2)"},
		{in("a", number(1)), "a in (1)"},
		{in("a", text("x"), text(""), text("y z")), `a in ("x", "", "y z")`},
		{in("a", number(3), number(-1), number(3)), "a in (3, -1, 3)"},
		{compare("b1", ">=", text("")), `b1 >= ""`},
		{pre("a", ""), `a ^= ""`},
		{pre("a", " x\\ "), `a ^= " x\ "`},
		{is(0), "a = 0"},
		{is(math.MaxInt64), "a = 9223372036854775807"},
		{is(math.MinInt64), "a = -9223372036854775808"},
		{not(always()), "not true"},
		{not(not(always())), "not not true"},
		{not(is(5)), "not (a = 5)"},
		{not(pre("a", "x")), `not (a ^= "x")`},
		{not(in("a", number(1))), "not (a in (1))"},
		{not(not(is(5))), "not not (a = 5)"},
		{not(and(is(1), is(2))), "not (a = 1 and a = 2)"},
		{not(or(is(1), always())), "not (a = 1 or true)"},
		{and(is(1), is(2)), "a = 1 and a = 2"},
		{or(is(1), is(2), is(3)), "a = 1 or a = 2 or a = 3"},
		{and(always(), not(always()), not(is(1))), "true and not true and not (a = 1)"},
		{or(not(not(is(1))), pre("b", "y")), `not not (a = 1) or b ^= "y"`},
		{and(or(is(1), is(2)), is(3)), "(a = 1 or a = 2) and a = 3"},
		{or(and(is(1), is(2)), is(3)), "(a = 1 and a = 2) or a = 3"},
		{and(is(1), or(is(2), and(is(3), is(4)))), "a = 1 and (a = 2 or (a = 3 and a = 4))"},
		{or(not(and(is(1), not(or(is(2), is(3))))), is(4)), "not (a = 1 and not (a = 2 or a = 3)) or a = 4"},
		{and(compare("a", "<", number(5)), or(compare("b", "=", text("x")), not(in("c", number(1))))), `a < 5 and (b = "x" or not (c in (1)))`},
	} {
		if s, err := filter.Text(c.f); err != nil || s != c.want {
			t.Errorf("the text is %q, %v, not %q", s, err, c.want)
		}
		wantRead(t, c.want, c.f)
	}
	for _, op := range ops() {
		if s, err := filter.Text(compare("xyz", op, number(-7))); err != nil || s != "xyz "+op+" -7" {
			t.Error(s, err)
		}
	}
}

// fields are filters of which each two differ in one field or part, but for the first ones.
func fields() []api.Filter {
	one, two := []api.Attr{number(1)}, []api.Attr{number(1), number(2)}
	return []api.Filter{
		{}, {Kind: 1}, {Kind: 2}, {Kind: 7}, {Kind: 8}, {Kind: -1}, {Name: "a"}, {Name: "b"}, {Name: "A"}, {Op: "a"}, {Op: "="},
		{Vals: one}, {Vals: two}, {Vals: []api.Attr{{}}}, {Vals: []api.Attr{{Name: "a", N: 1}}}, {Vals: []api.Attr{{Text: true, N: 1}}}, {Vals: []api.Attr{{S: "1", N: 1}}},
		{Vals: []api.Attr{number(2), number(1)}}, {Vals: []api.Attr{text("")}}, {Vals: []api.Attr{text("1")}},
		{L: []api.Filter{{}}}, {L: []api.Filter{{}, {}}}, {L: []api.Filter{{Kind: 1}}}, {L: []api.Filter{{Kind: 1}, {}}}, {L: []api.Filter{{}, {Kind: 1}}},
		{L: []api.Filter{{L: []api.Filter{{}}}}}, {L: []api.Filter{{Name: "a"}}}, {L: []api.Filter{{Vals: one}}},
		is(1), is(2), compare("b", "=", number(1)), compare("a", "<", number(1)), in("a", number(1)), pre("a", "x"), compare("a", "=", text("1")),
		in("a", number(1), number(2)), in("a", number(2), number(1)), in("a", number(1), number(1)), and(is(1), is(2)), and(is(2), is(1)), or(is(1), is(2)), and(is(1), is(2), is(2)),
		and(and(is(1), is(2)), is(3)), and(is(1), and(is(2), is(3))), and(is(1), is(2), is(3)), not(is(1)), not(not(is(1))), not(not(not(is(1)))), always(), not(always()),
	}
}

// P7.1: two are the same if all of one is the other one's, be they such as may be or not.
func TestSame(t *testing.T) {
	l, other := fields(), fields()
	for i, a := range l {
		for j, b := range other {
			// Both {Kind: 7} and always() stand in the list.
			want := i == j || a.Kind == api.FTrue && b.Kind == api.FTrue
			if filter.Same(a, b) != want {
				t.Error(a, b, "are the same:", !want)
			}
			for k, whole := range holders(a) {
				if filter.Same(whole, holders(b)[k]) != want || filter.Same(whole, b) && !same(whole, b) {
					t.Error(whole, holders(b)[k], "are the same:", !want)
				}
			}
		}
	}
}
