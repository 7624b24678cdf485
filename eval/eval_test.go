package eval_test

import (
	"math"
	"slices"
	"strconv"
	"strings"
	"testing"

	"plover/api"
	"plover/eval"
	"plover/filter"
)

// Filters, values and attributes as the tables tell them.

func and(l ...api.Filter) api.Filter { return api.Filter{Kind: api.FAnd, L: l} }
func or(l ...api.Filter) api.Filter  { return api.Filter{Kind: api.FOr, L: l} }
func not(l ...api.Filter) api.Filter { return api.Filter{Kind: api.FNot, L: l} }
func always() api.Filter             { return api.Filter{Kind: api.FTrue} }
func never() api.Filter              { return not(always()) }

func compare(name, op string, l ...api.Attr) api.Filter {
	return api.Filter{Kind: api.FCmp, Name: name, Op: op, Vals: l}
}

func pre(name string, l ...api.Attr) api.Filter {
	return api.Filter{Kind: api.FPre, Name: name, Vals: l}
}

func in(name string, l ...api.Attr) api.Filter {
	return api.Filter{Kind: api.FIn, Name: name, Vals: l}
}

func number(n int64) api.Attr { return api.Attr{N: n} }
func text(s string) api.Attr  { return api.Attr{Text: true, S: s} }

// of is an attribute of a name that has a value.
func of(name string, v api.Attr) api.Attr {
	v.Name = name
	return v
}

// bytesOf is a text of n times one byte.
func bytesOf(c byte, n int) string { return strings.Repeat(string([]byte{c}), n) }

// ops are those that there are.
func ops() []string { return []string{"<", "<=", "=", "!=", ">=", ">"} }

// standsSo tells whether what stands at place i of a list that rises stands so to what stands at j.
func standsSo(i int, op string, j int) bool {
	return map[string]bool{"<": i < j, "<=": i <= j, "=": i == j, "!=": i != j, ">=": i >= j, ">": i > j}[op]
}

// risingNumbers and risingTexts are values at the edges, each less than the next one.

func risingNumbers() []api.Attr {
	var l []api.Attr
	for _, n := range []int64{math.MinInt64, math.MinInt64 + 1, -1 << 53, 1 - 1<<53, -1 << 32, -1 << 31, -10, -9, -1, 0, 1, 9, 10, 1 << 31, 1 << 32, 1<<53 - 1, 1 << 53, 1<<53 + 1, math.MaxInt64 - 1, math.MaxInt64} {
		l = append(l, number(n))
	}
	return l
}

func risingTexts() []api.Attr {
	var l []api.Attr
	for _, s := range []string{"", "\x00", "\x00\x00", "\x00a", " ", "  ", "-1", "0", "10", "10 ", "100", "9", "A", "Z", "a", "a\x00", "a ", "aA", "aa", bytesOf('a', 200), bytesOf('a', 201), bytesOf('a', 200) + "b", "ab", "b", "z", "~", "\x7f", "\x80", "\xc3", "é", "\xff", "\xff\xff"} {
		l = append(l, text(s))
	}
	return l
}

// fillers are n attributes of names that no test asks for.
func fillers(n int) []api.Attr {
	var l []api.Attr
	for i := range n {
		l = append(l, api.Attr{Name: "filler" + strconv.Itoa(i), Text: i%2 > 0, N: int64(i), S: "x"})
	}
	return l
}

// wantHolds fails if a filter doesn't hold as wanted of attributes: by themselves, and with few and many of other names
// ahead of them, among them, and behind them.
func wantHolds(t *testing.T, f api.Filter, want bool, l ...api.Attr) {
	t.Helper()
	for _, n := range []int{0, 1, api.MaxAttrs - len(l), api.MaxAttrs + 1 - len(l), 40} {
		others := fillers(max(n, 0))
		spread := slices.Clone(others)
		for i, a := range slices.Backward(l) {
			spread = slices.Insert(spread, (i+1)*len(others)/(len(l)+1), a)
		}
		for _, all := range [][]api.Attr{slices.Concat(l, others), slices.Concat(others, l), spread} {
			if got := eval.Holds(f, all); got != want {
				t.Errorf("%v of %v (in all %d): %v", f, l, len(all), got)
				return
			}
		}
	}
}

// wantNone fails if one of the filters holds of attributes.
func wantNone(t *testing.T, l []api.Attr, fs ...api.Filter) {
	t.Helper()
	for _, f := range fs {
		wantHolds(t, f, false, l...)
		wantHolds(t, not(f), true, l...)
	}
}

// wantAll fails if one of the filters doesn't hold of attributes.
func wantAll(t *testing.T, l []api.Attr, fs ...api.Filter) {
	t.Helper()
	for _, f := range fs {
		wantHolds(t, f, true, l...)
		wantHolds(t, not(f), false, l...)
	}
}

// P9.1: texts of all sorts, the document's example first.
func TestHolds(t *testing.T) {
	l := []api.Attr{of("a", number(4)), of("b", text("xyz")), of("c", number(-5)), of("d", text(""))}
	for s, want := range map[string]bool{
		"a < 5":               true,
		"true":                true,
		"not true":            false,
		"not not true":        true,
		"a < 4":               false,
		"a <= 4":              true,
		"a = 4":               true,
		"a != 4":              false,
		"a >= 4":              true,
		"a > 4":               false,
		"c < -4 and c > -6":   true,
		`b < "y"`:             true,
		`b > "xy"`:            true,
		`b = "xyz"`:           true,
		`b ^= "x"`:            true,
		`b ^= "y"`:            false,
		`b ^= ""`:             true,
		`d = ""`:              true,
		`d ^= ""`:             true,
		`d < "a" and d <= ""`: true,
		"a in (1, 4)":         true,
		"a in (1, 5)":         false,
		`b in ("x", "xyz")`:   true,
		`b in ("x", "xy")`:    false,
		`a = "4"`:             false,
		`a != "4"`:            false,
		`not a = "4"`:         true,
		"b = 4":               false,
		"b != 4":              false,
		"e = 0":               false,
		"e != 0":              false,
		"not e != 0":          true,
		"e in (0)":            false,
		`e ^= ""`:             false,
		"a = 4 and c = -5":    true,
		"a = 4 and c = 5":     false,
		"a = 5 and c = -5":    false,
		"a = 5 or c = -5":     true,
		"a = 5 or c = 5":      false,
		"a = 4 or e = 1":      true,
		"a = 5 or a = 4 and not (b ^= \"y\" or e = 1)": true,
		"not (a = 4 and (b = \"\" or c in (1, -5)))":   false,
	} {
		f, err := filter.Read(s)
		if err != nil {
			t.Fatal(s, err)
		}
		wantHolds(t, f, want, l...)
	}
}

// P9.1: FTrue holds always, FNot as its first part doesn't.
func TestTrueAndNot(t *testing.T) {
	l := []api.Attr{of("a", number(4))}
	yes, no := compare("a", "=", number(4)), compare("a", "=", number(5))
	wantHolds(t, always(), true)
	wantHolds(t, always(), true, l...)
	wantHolds(t, not(), false)
	wantHolds(t, not(), false, l...)
	wantHolds(t, not(not()), true, l...)
	wantHolds(t, not(not(not())), false, l...)
	wantHolds(t, not(yes), false, l...)
	wantHolds(t, not(no), true, l...)
	wantHolds(t, not(not(yes)), true, l...)
	wantHolds(t, not(not(no)), false, l...)
	wantHolds(t, not(no, yes), true, l...)
	wantHolds(t, not(no, no), true, l...)
	wantHolds(t, not(yes, no), false, l...)
	wantHolds(t, not(yes, yes), false, l...)
	wantHolds(t, not(yes, no, no), false, l...)
	wantHolds(t, not(no, yes, yes), true, l...)
}

// P9.1: FAnd and FOr of each number of parts, of which one decides, at each place, or none, or all.
func TestAndAndOr(t *testing.T) {
	l := []api.Attr{of("a", number(4))}
	yes, no := compare("a", "=", number(4)), compare("a", "=", number(5))
	wantHolds(t, and(), true)
	wantHolds(t, and(), true, l...)
	wantHolds(t, or(), false)
	wantHolds(t, or(), false, l...)
	for _, n := range []int{1, 2, 3, 4, 7, 58, 59, 60, 61, 200} {
		allYes, allNo := slices.Repeat([]api.Filter{yes}, n), slices.Repeat([]api.Filter{no}, n)
		wantHolds(t, and(allYes...), true, l...)
		wantHolds(t, or(allYes...), true, l...)
		wantHolds(t, and(allNo...), false, l...)
		wantHolds(t, or(allNo...), false, l...)
		for i := range n {
			oneNo, oneYes := slices.Clone(allYes), slices.Clone(allNo)
			oneNo[i], oneYes[i] = no, yes
			if eval.Holds(and(oneNo...), l) || !eval.Holds(or(oneYes...), l) {
				t.Error("one of", n, "parts decides, at", i)
			}
			if n > 1 && (!eval.Holds(or(oneNo...), l) || eval.Holds(and(oneYes...), l)) {
				t.Error("one of", n, "parts doesn't decide, at", i)
			}
		}
	}
}

// P9.1: parts within parts of the same kind and of others, all rows of three parts that hold or don't.
func TestParts(t *testing.T) {
	l := []api.Attr{of("a", text("x"))}
	part := func(yes bool) api.Filter {
		if yes {
			return pre("a", text("x"))
		}
		return in("a", text("y"))
	}
	for bits := range 8 {
		a, b, c := bits&1 > 0, bits&2 > 0, bits&4 > 0
		p, q, r := part(a), part(b), part(c)
		wantHolds(t, and(p, q, r), a && b && c, l...)
		wantHolds(t, or(p, q, r), a || b || c, l...)
		wantHolds(t, and(p, and(q, r)), a && b && c, l...)
		wantHolds(t, or(or(p, q), r), a || b || c, l...)
		wantHolds(t, and(p, or(q, r)), a && (b || c), l...)
		wantHolds(t, or(and(p, q), r), a && b || c, l...)
		wantHolds(t, not(and(p, not(or(q, r)))), !a || b || c, l...)
		wantHolds(t, or(p, not(and(q, not(r)))), a || !b || c, l...)
		wantHolds(t, not(not(p), q, r), a, l...)
	}
}

// P9.1: each Op, of each two numbers and each two texts; of a value of the other type none holds.
func TestCompare(t *testing.T) {
	for _, l := range [][]api.Attr{risingNumbers(), risingTexts()} {
		for i, a := range l {
			for j, v := range l {
				for _, op := range ops() {
					if got := eval.Holds(compare("a", op, v), []api.Attr{of("a", a)}); got != standsSo(i, op, j) {
						t.Errorf("%v %s %v: %v", a, op, v, got)
					}
				}
			}
		}
	}
	for _, n := range risingNumbers() {
		for _, s := range risingTexts() {
			for _, op := range ops() {
				if eval.Holds(compare("a", op, n), []api.Attr{of("a", s)}) || eval.Holds(compare("a", op, s), []api.Attr{of("a", n)}) {
					t.Errorf("%v %s %v", n, op, s)
				}
			}
		}
	}
}

// P9.1: a text beside a number, and a number beside a text, count for nothing.
func TestWhatStandsBeside(t *testing.T) {
	a := []api.Attr{{Name: "a", N: 5, S: "xyz"}, {Name: "b", Text: true, N: 5, S: "xyz"}}
	for _, s := range []string{"", "a", "xyz", "zzz"} {
		for _, n := range []int64{-9, 4, 5, 6} {
			odd := []api.Attr{{N: n, S: s}, {Name: "z", N: n, S: s}}
			for _, v := range odd {
				for i, op := range ops() {
					wantHolds(t, compare("a", op, v), []bool{5 < n, 5 <= n, 5 == n, 5 != n, 5 >= n, 5 > n}[i], a...)
					wantNone(t, a, compare("b", op, v))
				}
				wantHolds(t, in("a", v), n == 5, a...)
				wantNone(t, a, in("b", v), pre("a", v), pre("b", v))
				v.Text = true
				for i, op := range ops() {
					wantHolds(t, compare("b", op, v), []bool{"xyz" < s, "xyz" <= s, "xyz" == s, "xyz" != s, "xyz" >= s, "xyz" > s}[i], a...)
					wantNone(t, a, compare("a", op, v))
				}
				wantHolds(t, in("b", v), s == "xyz", a...)
				wantHolds(t, pre("b", v), s == "" || s == "xyz", a...)
				wantNone(t, a, in("a", v), pre("a", v))
			}
		}
	}
}

// asking are filters of a name that hold of something, of each kind that asks for an attribute.
func asking(name string) []api.Filter {
	l := []api.Filter{pre(name, text("")), pre(name, text("x")), in(name, number(0)), in(name, text("")), in(name, number(1), text("x"))}
	for _, op := range ops() {
		l = append(l, compare(name, op, number(0)), compare(name, op, text("")), compare(name, op, number(1)), compare(name, op, text("x")))
	}
	return l
}

// P9.1: of a name that no attribute has nothing holds that asks for one.
func TestNoAttribute(t *testing.T) {
	for _, l := range [][]api.Attr{nil, {}, {{}}, {{Text: true}}, {of("a", number(0)), of("ab", text("")), of("abcd", text("x")), of("ABC", number(1)), of("abd", text("abc")), of(" abc", text("x")), of("abc ", number(0)), of("bc", number(0))}} {
		wantNone(t, l, asking("abc")...)
		for _, f := range asking("abc") {
			wantNone(t, l, or(f, f), and(f, always()))
		}
	}
	wantNone(t, nil, asking("")...)
	wantNone(t, []api.Attr{of("a", number(0)), of(" ", text(""))}, asking("")...)
}

// P9.1: names are held against each other whole, whatever they are.
func TestAnyName(t *testing.T) {
	names := []string{"", " ", "a", "a\x00", "A", "aa", "é", "\xff", "and", "true", "5", bytesOf('a', 20), bytesOf('a', 21), bytesOf('a', 1<<20), bytesOf('a', 1<<20-1) + "b"}
	for i, name := range names {
		for j, other := range names {
			a := []api.Attr{of(other, number(0))}
			wantHolds(t, compare(name, "=", number(0)), i == j, a...)
			wantHolds(t, in(name, number(0)), i == j, a...)
			wantHolds(t, pre(name, text("")), i == j, of(other, text("x")))
		}
	}
}

// P9.1: of two of one name the first one counts, of whatever type and value.
func TestFirstOfOneName(t *testing.T) {
	yes := []api.Filter{compare("a", "=", number(5)), compare("a", "<", number(6)), compare("a", "!=", number(4)), in("a", number(4), number(5))}
	first := of("a", number(5))
	for _, second := range []api.Attr{number(5), number(4), number(6), text(""), text("5")} {
		wantAll(t, []api.Attr{first, of("a", second)}, yes...)
		wantAll(t, []api.Attr{first, of("b", number(4)), of("a", second), first, of("a", second)}, yes...)
	}
	for _, ahead := range []api.Attr{number(math.MaxInt64), text(""), text("5"), {Text: true, N: 5}} {
		wantNone(t, []api.Attr{of("a", ahead), first}, yes[0], yes[1], yes[3])
		wantNone(t, []api.Attr{of("b", number(5)), of("a", ahead), first, of("a", ahead), first}, yes[0], yes[1], yes[3])
	}
	wantNone(t, []api.Attr{of("a", number(4)), first}, yes[0], yes[2], compare("a", ">", number(4)))
	wantNone(t, []api.Attr{of("a", text("4")), first}, yes...)
	wantNone(t, []api.Attr{of("a", number(0)), of("a", text("xyz"))}, pre("a", text("")), pre("a", text("x")), in("a", text("xyz")), compare("a", "=", text("xyz")))
	wantNone(t, []api.Attr{of("a", text("zyx")), of("a", text("xyz"))}, pre("a", text("x")), in("a", text("xyz")), compare("a", "<", text("y")))
	wantAll(t, []api.Attr{of("a", text("xyz")), of("a", number(0)), of("a", text("zyx"))}, pre("a", text("x")), in("a", text("xyz")), compare("a", "<", text("y")))
}

// P9.1: FPre with each text that the whole one begins with, with others, and of numbers.
func TestBegins(t *testing.T) {
	for _, whole := range []string{"", "a", "abc", "aaa", "aab", "é", "\xff\x00\xff", bytesOf('a', 200), "abc" + bytesOf('x', 1<<16)} {
		a := []api.Attr{of("a", text(whole))}
		for _, n := range []int{0, 1, 2, 3, 100, 199, 200, len(whole)} {
			if n <= len(whole) {
				wantAll(t, a, pre("a", text(whole[:n])), pre("a", text(whole[:n]), text("no")), pre("a", text(whole[:n]), number(0)))
				wantNone(t, a, pre("a", number(0), text(whole[:n])), pre("a", api.Attr{S: whole[:n]}), pre("a", text(whole+"z"), text(whole[:n])))
			}
		}
		for _, n := range []int{1, 2, 3} {
			if n <= len(whole) {
				cut := []byte(whole[:n])
				cut[n-1]++
				wantNone(t, a, pre("a", text(string(cut))), pre("a", text(string(cut)+whole[n:])))
			}
		}
		wantNone(t, a, pre("a", text(whole+"\x00")), pre("a", text(whole+whole+"a")), pre("a", text("z"+whole)), pre("a", text("b")))
	}
	wantNone(t, []api.Attr{of("a", text("xabc"))}, pre("a", text("a")), pre("a", text("abc")), pre("a", text("c")))
	wantNone(t, []api.Attr{of("a", number(55))}, pre("a", text("")), pre("a", text("5")), pre("a", text("55")), pre("a", number(5)), pre("a", number(55)), pre("a", number(0)))
	wantNone(t, []api.Attr{of("a", text("55"))}, pre("a", number(5)), pre("a", number(55)), pre("a", number(0)), pre("a", api.Attr{N: 5, S: "5"}))
}

// P9.1: FIn with no value, with one, and with many of one type or of both, that sought at each place, or not there.
func TestIn(t *testing.T) {
	n, s := []api.Attr{of("a", number(5))}, []api.Attr{of("a", text("5"))}
	wantNone(t, n, in("a"))
	wantNone(t, s, in("a"))
	for _, many := range []int{1, 2, 3, 19, 20, 21, 100} {
		var numbers, texts, both []api.Attr
		for i := range many {
			numbers = append(numbers, number(int64(i-200)))
			texts = append(texts, text(strconv.Itoa(i-200)))
			both = append(both, []api.Attr{number(int64(i - 200)), text(strconv.Itoa(i - 200)), {N: 6, S: "5"}, {Text: true, N: 5, S: "6"}}[i%4])
		}
		for _, l := range [][]api.Attr{numbers, texts, both} {
			wantNone(t, n, in("a", l...))
			wantNone(t, s, in("a", l...))
			for _, at := range []int{0, many / 2, many - 1} {
				with := slices.Clone(l)
				with[at] = number(5)
				wantAll(t, n, in("a", with...))
				wantNone(t, s, in("a", with...))
				with[at] = text("5")
				wantAll(t, s, in("a", with...))
				wantNone(t, n, in("a", with...))
			}
		}
	}
	wantAll(t, []api.Attr{of("a", number(math.MinInt64))}, in("a", number(math.MaxInt64), number(math.MinInt64)))
	wantAll(t, []api.Attr{of("a", text(""))}, in("a", number(0), text("a"), text("")))
	wantNone(t, []api.Attr{of("a", text("ab"))}, in("a", text("a"), text("abc"), text("b"), text("")))
	wantNone(t, []api.Attr{of("a", number(0))}, in("a", text(""), text("0")))
	wantAll(t, n, in("a", number(5), number(5)), in("a", of("z", number(4)), of("z", number(5))))
}

// P9.1: a kind that there isn't doesn't hold, whatever else the filter has.
func TestNoSuchKind(t *testing.T) {
	l := []api.Attr{of("a", number(5)), of("b", text("x")), of("", number(0))}
	kinds := []int{0, -1, 8, 9, 10, 255, 256, 1 << 31, math.MaxInt, math.MinInt}
	for kind := api.FAnd; kind <= api.FTrue; kind++ {
		kinds = append(kinds, -kind, kind+8, kind+256, kind-256, kind+1<<16, kind+1<<32, kind-1<<32, kind+math.MinInt)
	}
	for _, kind := range kinds {
		for _, f := range []api.Filter{{}, always(), and(always(), always()), or(always()), not(never()), not(), compare("a", "=", number(5)), compare("b", ">=", text("x")), pre("b", text("x")), in("a", number(5)), in("b", text("x"))} {
			f.Kind = kind
			wantNone(t, l, f, and(always(), f), or(never(), f))
			wantAll(t, l, or(f, always()), and(always(), not(f)))
		}
	}
}

// P9.1: an Op that there isn't doesn't hold, however the attribute stands to the value.
func TestNoSuchOp(t *testing.T) {
	l := []api.Attr{of("a", number(5)), of("b", text("m"))}
	for _, op := range []string{"", " ", "==", "=<", "=>", "<>", "!", "^", "^=", "in", "and", "true", "<<", ">>", "===", "< ", " <", "<=\x00", "≤", "≠", "!==", "<==", ">==", "\xff", bytesOf('<', 500)} {
		for _, n := range []int64{4, 5, 6} {
			wantNone(t, l, compare("a", op, number(n)), compare("a", op, number(n), number(5)))
		}
		for _, s := range []string{"", "a", "m", "z"} {
			wantNone(t, l, compare("b", op, text(s)), compare("b", op, text(s), text("m")))
		}
		wantNone(t, l, compare("c", op, number(0)), compare("a", op, text("5")), compare("a", op))
	}
}

// P9.1: FCmp without a value doesn't hold, nor does FPre; of more values the first one counts.
func TestNoValueAndMore(t *testing.T) {
	for _, a := range []api.Attr{number(0), number(5), text(""), text("x")} {
		l := []api.Attr{of("a", a)}
		for _, op := range ops() {
			wantNone(t, l, compare("a", op), api.Filter{Kind: api.FCmp, Name: "a", Op: op, Vals: []api.Attr{}}, compare("", op), compare("b", op))
		}
		wantNone(t, l, pre("a"), api.Filter{Kind: api.FPre, Name: "a", Vals: []api.Attr{}}, pre(""), pre("b"))
	}
	l := []api.Attr{of("a", number(5)), of("b", text("xyz"))}
	for _, more := range [][]api.Attr{{number(4)}, {number(6)}, {text("x")}, {number(5), number(5)}, make([]api.Attr, 30)} {
		for i, op := range ops() {
			for j, v := range []api.Attr{number(4), number(5), number(6)} {
				wantHolds(t, compare("a", op, append([]api.Attr{v}, more...)...), standsSo(1, op, j), l...)
			}
			wantNone(t, l, compare("a", op, append([]api.Attr{text("5")}, more...)...))
			wantHolds(t, compare("b", op, append([]api.Attr{text("xyz")}, more...)...), []bool{false, true, true, false, true, false}[i], l...)
		}
		wantAll(t, l, pre("b", append([]api.Attr{text("xy")}, more...)...))
		wantNone(t, l, pre("b", append([]api.Attr{text("y")}, more...)...), pre("b", append([]api.Attr{number(0)}, more...)...))
	}
	wantNone(t, l, pre("b", text("y"), text("x")), compare("b", "=", text("y"), text("xyz")))
}

// P9.1: fields that must be empty count for nothing.
func TestFieldsThatMustBeEmpty(t *testing.T) {
	l := []api.Attr{of("a", number(5)), of("b", text("xyz"))}
	for _, f := range []api.Filter{
		always(), never(), and(), or(), not(), and(always(), never()), and(always(), always()), or(always(), never()), not(never()), not(never(), never()),
		{Kind: 0}, {Kind: 8},
	} {
		want := eval.Holds(f, l)
		for _, name := range []string{"", "a", "b", "z"} {
			for _, op := range []string{"", "=", "!=", "bad"} {
				for _, v := range [][]api.Attr{nil, {number(5)}, {text("x")}, {number(4), text("xyz")}} {
					f.Name, f.Op, f.Vals = name, op, v
					wantHolds(t, f, want, l...)
				}
			}
		}
	}
	for _, parts := range [][]api.Filter{{never()}, {always()}, {not(), never()}, {{}}} {
		wantHolds(t, api.Filter{Kind: api.FTrue, L: parts}, true, l...)
		wantHolds(t, api.Filter{Kind: 0, L: parts}, false, l...)
		wantHolds(t, api.Filter{Kind: 8, L: parts}, false, l...)
	}
	for _, f := range append(asking("a"), append(asking("b"), asking("z")...)...) {
		want := eval.Holds(f, l)
		for _, parts := range [][]api.Filter{{always()}, {never()}, {f, not(f)}, {never(), never(), always()}} {
			f.L = parts
			wantHolds(t, f, want, l...)
			if f.Kind != api.FCmp {
				f.Op = "bad"
				wantHolds(t, f, want, l...)
				f.Op = "!="
				wantHolds(t, f, want, l...)
			}
		}
	}
}
