package check_test

import (
	"fmt"
	"math/rand"
	"slices"
	"strconv"
	"strings"
	"testing"

	"plover/api"
	"plover/check"
	"plover/filter"
)

// Filters, values and schemas as the tables tell them.

func and(l ...api.Filter) api.Filter { return api.Filter{Kind: api.FAnd, L: l} }
func or(l ...api.Filter) api.Filter  { return api.Filter{Kind: api.FOr, L: l} }
func not(f api.Filter) api.Filter    { return api.Filter{Kind: api.FNot, L: []api.Filter{f}} }
func always() api.Filter             { return api.Filter{Kind: api.FTrue} }

func compare(name, op string, v api.Attr) api.Filter {
	return api.Filter{Kind: api.FCmp, Name: name, Op: op, Vals: []api.Attr{v}}
}

func pre(name, s string) api.Filter {
	return api.Filter{Kind: api.FPre, Name: name, Vals: []api.Attr{text(s)}}
}

func in(name string, l ...api.Attr) api.Filter {
	return api.Filter{Kind: api.FIn, Name: name, Vals: l}
}

func number(n int64) api.Attr { return api.Attr{N: n} }
func text(s string) api.Attr  { return api.Attr{Text: true, S: s} }

// nots is a filter within so many nots.
func nots(n int, f api.Filter) api.Filter {
	for range n {
		f = not(f)
	}
	return f
}

// times is a list of one filter, so many times.
func times(n int, f api.Filter) []api.Filter { return slices.Repeat([]api.Filter{f}, n) }

// bytesOf is a text of n times one byte.
func bytesOf(c byte, n int) string { return strings.Repeat(string([]byte{c}), n) }

// schema is one of names that are told as "a" for a number, and as "b:" for a text.
func schema(l ...string) check.Schema {
	var s check.Schema
	for _, told := range l {
		name, isText := strings.CutSuffix(told, ":")
		s.Names = append(s.Names, name)
		s.Text = append(s.Text, isText)
	}
	return s
}

// plain is the schema of most tests: a and m are numbers, b and n texts.
func plain() check.Schema { return schema("a", "b:", "m", "n:") }

// notThere are names that aren't in plain: about, between and near those that are, and of their bytes.
func notThere() []string {
	return []string{"a0", "aa", "ab", "b0", "bb", "c", "l9", "m0", "mn", "n0", "nn", "z", bytesOf('a', 20), bytesOf('z', 20)}
}

// ofNumbers are filters of one name that is a number, of each kind.
func ofNumbers(name string) []api.Filter {
	l := []api.Filter{in(name, number(1)), in(name, number(0), number(-1), number(1))}
	for _, op := range []string{"<", "<=", "=", "!=", ">=", ">"} {
		l = append(l, compare(name, op, number(5)), compare(name, op, number(0)))
	}
	return l
}

// ofTexts are filters of one name that is a text, of each kind.
func ofTexts(name string) []api.Filter {
	l := []api.Filter{in(name, text("x")), in(name, text(""), text("5"), text("x")), pre(name, "x"), pre(name, "")}
	for _, op := range []string{"<", "<=", "=", "!=", ">=", ">"} {
		l = append(l, compare(name, op, text("x")), compare(name, op, text("")))
	}
	return l
}

// well are filters that are well typed by plain.
func well() []api.Filter {
	return slices.Concat(ofNumbers("a"), ofTexts("b"), ofNumbers("m"), ofTexts("n"), []api.Filter{always()})
}

// ill are filters all of whose names are in plain, and that aren't well typed.
func ill() []api.Filter {
	return slices.Concat(ofTexts("a"), ofNumbers("b"), ofTexts("m"), ofNumbers("n"))
}

// missing are filters of one name each, that isn't in plain.
func missing() []api.Filter {
	var l []api.Filter
	for _, name := range notThere() {
		l = append(l, ofNumbers(name)...)
		l = append(l, ofTexts(name)...)
	}
	return l
}

// mayNot are filters that may not be, for one reason each; some of their names aren't in plain, or have other types.
func mayNot() []api.Filter {
	return []api.Filter{
		{}, {Kind: 8}, {Kind: -1}, {Kind: 8, Name: "a"}, {Kind: 0, Name: "z"}, {Kind: api.FTrue, Name: "a"}, {Kind: api.FTrue, Name: "z"}, {Kind: api.FNot, Name: "a", L: []api.Filter{always()}},
		and(), or(), and(always()), or(compare("z", "=", number(1))), {Kind: api.FNot}, {Kind: api.FNot, L: times(2, always())},
		and(and(always(), always()), always()), or(always(), or(pre("z", "x"), pre("a", "x"))), nots(10, always()), nots(10, compare("z", "=", number(1))), and(times(60, compare("a", "=", text("x")))...),
		compare("A", "=", number(1)), compare("", "=", number(1)), compare("and", "=", number(1)), compare("a ", "=", number(1)), compare(bytesOf('a', 21), "=", number(1)),
		compare("a", "==", number(1)), compare("a", "", number(1)), compare("z", "^=", text("x")), compare("a", "=", api.Attr{S: "x"}), compare("b", "=", api.Attr{Text: true, N: 1}), compare("a", "=", api.Attr{Name: "a"}),
		{Kind: api.FCmp, Name: "a", Op: "="}, {Kind: api.FCmp, Name: "a", Op: "=", Vals: []api.Attr{{}, {}}}, {Kind: api.FCmp, Name: "a", Op: "=", Vals: []api.Attr{{}}, L: times(1, always())},
		{Kind: api.FPre, Name: "b"}, {Kind: api.FPre, Name: "a", Vals: []api.Attr{number(1)}}, {Kind: api.FPre, Name: "b", Op: "^=", Vals: []api.Attr{text("x")}}, pre("b", bytesOf('x', 201)), pre("b", `"`),
		in("a"), in("z"), in("a", number(1), text("x")), in("b", text("x"), number(1)), in("a", make([]api.Attr, 21)...), in("b", text("é")),
	}
}

// holders are filters that have one filter as a part, at each place there may be one, beside others that are well typed
// by plain. One that may be is so within each of them, if it is no FAnd and no FOr, and at most 7 deep.
func holders(f api.Filter) []api.Filter {
	a, b := compare("a", "=", number(1)), pre("b", "x")
	return []api.Filter{
		not(f), and(f, a), and(b, f), or(f, b), or(a, f), and(a, f, b), not(not(f)), or(and(a, not(f)), always()), and(a, or(b, not(f))), or(not(and(f, b)), a), and(not(not(not(a))), not(or(b, f))),
	}
}

// wantCheck fails if one of the filters isn't answered just so.
func wantCheck(t *testing.T, s check.Schema, want error, l ...api.Filter) {
	t.Helper()
	for _, f := range l {
		if err := check.Check(s, f); err != want {
			t.Errorf("by %v %v is %v, not %v", s, f, err, want)
		}
	}
}

// wantCheckAnywhere fails if one of the filters isn't answered just so, or one that it is a part of.
func wantCheckAnywhere(t *testing.T, s check.Schema, want error, l ...api.Filter) {
	t.Helper()
	for _, f := range l {
		wantCheck(t, s, want, f)
		wantCheck(t, s, want, holders(f)...)
	}
}

// read is a text's filter.
func read(t *testing.T, s string) api.Filter {
	t.Helper()
	f, err := filter.Read(s)
	if err != nil {
		t.Fatal(s, err)
	}
	return f
}

// P8.1: texts of all sorts, the document's example first.
func TestCheck(t *testing.T) {
	wantCheck(t, schema("a"), api.ErrType, read(t, `a = "x"`))
	for s, want := range map[string]error{
		"true":         nil,
		"not not true": nil,
		"a < 5":        nil,
		`b < "5"`:      nil,
		`b ^= "x" and not (a in (1, 2) or m > 5)`: nil,
		`n in ("x", "y") or n = ""`:               nil,
		`a < "5"`:                                 api.ErrType,
		"b < 5":                                   api.ErrType,
		`a ^= "5"`:                                api.ErrType,
		`a in ("1", "2")`:                         api.ErrType,
		"b in (1, 2)":                             api.ErrType,
		`a = 1 and a = "1"`:                       api.ErrType,
		`b = "x" or not (a = 1 and b = 1)`:        api.ErrType,
		"z = 1":                                   api.ErrNone,
		`z = "x"`:                                 api.ErrNone,
		`z ^= "x"`:                                api.ErrNone,
		"z in (1)":                                api.ErrNone,
		"a = 1 and b2 = 2":                        api.ErrNone,
		`b = 1 and (z = 1 or true)`:               api.ErrNone,
		`not z ^= "x" or a ^= "x"`:                api.ErrNone,
	} {
		wantCheck(t, plain(), want, read(t, s))
	}
}

// P8.1: each kind of name with each kind of value, at each place in a filter.
func TestTypes(t *testing.T) {
	wantCheckAnywhere(t, plain(), nil, well()...)
	wantCheckAnywhere(t, plain(), api.ErrType, ill()...)
	wantCheckAnywhere(t, plain(), api.ErrNone, missing()...)
}

// P8.1: what is well typed by a schema isn't by one with the other types, and what isn't is, but for what has no names.
func TestOtherTypes(t *testing.T) {
	other := schema("a:", "b", "m:", "n")
	for _, f := range ill() {
		wantCheck(t, other, nil, f, not(f), and(f, always()), or(always(), not(f), f))
	}
	for _, f := range well() {
		if f.Kind != api.FTrue {
			wantCheck(t, other, api.ErrType, f, not(f), and(f, always()), or(always(), not(f), f))
		}
	}
	wantCheck(t, other, nil, always(), not(always()), and(always(), always()))
}

// P8.1: every value of an FIn has its name's type, and as many as may be are no harm.
func TestManyValues(t *testing.T) {
	for n := 1; n <= 20; n++ {
		numbers, texts := slices.Repeat([]api.Attr{number(5)}, n), slices.Repeat([]api.Attr{text("x")}, n)
		wantCheck(t, plain(), nil, in("a", numbers...), in("b", texts...))
		wantCheck(t, plain(), api.ErrType, in("b", numbers...), in("a", texts...))
		wantCheck(t, plain(), api.ErrNone, in("z", numbers...), in("z", texts...))
	}
}

// P8.1: a name that isn't there is told ahead of one with another type, on whichever side it stands, and how deep.
func TestNoneAheadOfType(t *testing.T) {
	none := []api.Filter{compare("z", "=", number(1)), pre("a0", "x"), in("aa", text("x")), in("c", number(1))}
	for _, x := range none {
		for _, y := range ill() {
			wantCheck(t, plain(), api.ErrNone, and(x, y), and(y, x), or(x, y), or(y, x), and(not(x), y), and(y, not(x)), or(not(y), x), or(x, not(y)))
			wantCheck(t, plain(), api.ErrNone, and(y, always(), x, y), and(nots(8, y), x), and(y, nots(8, x)), or(and(y, y), and(y, x)), or(and(x, y), and(y, y)), and(or(and(y, x), y), y), and(y, or(y, and(y, x))))
		}
		wantCheck(t, plain(), api.ErrNone, and(append(times(58, ill()[0]), x)...), and(append([]api.Filter{x}, times(58, ill()[0])...)...))
	}
}

// P8.1: a name at the end of a filter as deep, or with as many nodes, as may be.
func TestLastName(t *testing.T) {
	for _, c := range []struct {
		want error
		l    []api.Filter
	}{{nil, well()}, {api.ErrType, ill()}, {api.ErrNone, missing()}} {
		for _, f := range c.l {
			wantCheck(t, plain(), c.want, nots(9, f), and(append(times(58, always()), f)...), or(append([]api.Filter{f}, times(58, always())...)...))
		}
		wantCheck(t, plain(), api.ErrArg, nots(10, c.l[0]), and(append(times(59, always()), c.l[0])...))
	}
}

// P8.1: a filter that may not be is told ahead of its names and types, by itself and as a part.
func TestFiltersThatMayNot(t *testing.T) {
	for _, s := range []check.Schema{plain(), schema(), schema("a"), schema("z:")} {
		for _, f := range mayNot() {
			if filter.May(f) {
				t.Fatal(f, "may be")
			}
			wantCheckAnywhere(t, s, api.ErrArg, f)
			for _, other := range []api.Filter{compare("z", "=", number(1)), compare("a", "=", text("x"))} {
				wantCheck(t, s, api.ErrArg, and(f, other), and(other, f), or(not(other), not(f)))
			}
		}
	}
}

// schemasThatMay are such.
func schemasThatMay() []check.Schema {
	return []check.Schema{
		{}, {Names: []string{}, Text: []bool{}}, {Names: nil, Text: []bool{}}, {Names: []string{}},
		schema("a"), schema("a:"), schema("a", "b"), schema("a:", "b:"), plain(), schema("a", "a0", "a00", "a1", "a9", "aa", "b", "z", "z9"), schema("z"),
		schema(bytesOf('a', 20)), schema(bytesOf('z', 20) + ":"), schema(bytesOf('a', 19), bytesOf('a', 20)), schema("a"+bytesOf('0', 19), "a"+bytesOf('9', 19)), schema("an", "andy", "i", "inn", "nor", "nota", "ora", "true0"),
	}
}

// schemasThatMayNot are such, for one reason each.
func schemasThatMayNot() []check.Schema {
	l := []check.Schema{
		{Names: []string{"a"}}, {Text: []bool{true}}, {Names: []string{"a", "b"}, Text: []bool{true}}, {Names: []string{"a"}, Text: []bool{false, false}}, {Names: []string{"a"}, Text: []bool{}}, {Names: []string{}, Text: []bool{false}},
		{Names: []string{"a", "b", "c"}, Text: make([]bool, 2)}, {Names: []string{"a", "b", "c"}, Text: make([]bool, 4)}, {Names: []string{"a", "b", "c"}, Text: make([]bool, 1<<16)},
		schema("b", "a"), schema("b:", "a:"), schema("a", "c", "b"), schema("b", "a", "c"), schema("a1", "a0"), schema("aa", "a"), schema("a", "a"), schema("a", "a:"), schema("a", "b", "b"), schema("a", "a", "b"), schema("a", "b", "a"), schema("a", "b", "c", "b"),
	}
	// Some stand at the beginning, some in the middle, some at the end, and would rise.
	for _, name := range []string{"", " ", "A", "Z", "0", "5", "-1", "_", `"a"`, "=", "aB", "a_b", "a b", "a ", "a,", "a.b", "a-b", "and", "in", "not", "or", "true", "é", "aé", "a\x00", "\xff", bytesOf('a', 21), bytesOf('m', 21), bytesOf('z', 21), bytesOf('a', 501), bytesOf('z', 1<<20)} {
		l = append(l, schema(name), schema(name+":"))
		names := slices.Sorted(slices.Values([]string{"a", "an", "m", "zz", name}))
		l = append(l, check.Schema{Names: names, Text: make([]bool, len(names))})
	}
	return append(l, schema(" a"), schema(" a "), schema("a\n"))
}

// P8.1, P8.2: which schemas may be, as it is told of a filter and of attributes that ask nothing of them.
func TestSchemas(t *testing.T) {
	for _, s := range schemasThatMay() {
		wantCheck(t, s, nil, always(), not(always()))
		wantFits(t, s, nil, nil, []api.Attr{})
		for i, name := range s.Names {
			v, other := number(5), text("x")
			if s.Text[i] {
				v, other = other, v
			}
			wantCheck(t, s, nil, compare(name, "=", v), in(name, v, v), not(compare(name, "<", v)))
			wantCheck(t, s, api.ErrType, compare(name, "=", other), in(name, other), not(compare(name, "<", other)))
			wantFits(t, s, nil, []api.Attr{named(name, v)})
			wantFits(t, s, api.ErrType, []api.Attr{named(name, other)})
		}
	}
}

// P8.1: a schema that may not be is told ahead of all else.
func TestCheckOfSchemasThatMayNot(t *testing.T) {
	l := slices.Concat(mayNot(), []api.Filter{always(), compare("a", "=", number(1)), compare("b", "=", text("x")), compare("z", "=", number(1)), compare("a", "=", text("x")), and(pre("a", "x"), pre("z", "x"))})
	for _, s := range schemasThatMayNot() {
		wantCheck(t, s, api.ErrArg, l...)
	}
}

// P8.1: of a schema without names, each name isn't there.
func TestSchemaWithoutNames(t *testing.T) {
	for _, s := range []check.Schema{{}, {Names: []string{}, Text: []bool{}}} {
		for _, f := range slices.Concat(well(), ill(), missing()) {
			if f.Kind != api.FTrue {
				wantCheck(t, s, api.ErrNone, f, not(f), and(always(), f))
			}
		}
	}
}

// great is a schema of n names, each third one a text.
func great(n int) check.Schema {
	var s check.Schema
	for i := range n {
		s.Names = append(s.Names, "n"+strconv.Itoa(1<<30+i))
		s.Text = append(s.Text, i%3 == 0)
	}
	return s
}

// P8.1, P8.2, P1: a schema of many names has all of them.
func TestGreatSchemas(t *testing.T) {
	s := great(1 << 16)
	for i := 0; i < len(s.Names); i += 4095 {
		v, other := number(1), text("1")
		if s.Text[i] {
			v, other = other, v
		}
		wantCheck(t, s, nil, compare(s.Names[i], "<", v))
		wantCheck(t, s, api.ErrType, in(s.Names[i], other))
		wantCheck(t, s, api.ErrNone, compare(s.Names[i]+"0", "<", v))
		wantFits(t, s, nil, []api.Attr{named(s.Names[i], v)})
		wantFits(t, s, api.ErrType, []api.Attr{named(s.Names[i], other)})
		wantFits(t, s, api.ErrNone, []api.Attr{named(s.Names[i]+"0", v)})
	}
	for _, i := range []int{1, 1 << 15, 1<<16 - 1} {
		amiss := great(1 << 16)
		amiss.Names[i] = amiss.Names[i-1]
		wantCheck(t, amiss, api.ErrArg, always())
		wantFits(t, amiss, api.ErrArg, nil)
	}
}

// P1: a filter that is deep, or great, is no harm.
func TestGreatFilters(t *testing.T) {
	doubled := compare("a", "=", number(1))
	for range 40 {
		doubled = and(doubled, doubled)
	}
	for _, f := range []api.Filter{nots(1<<16-1, always()), and(times(1<<20, pre("z", "x"))...), in("a", make([]api.Attr, 1<<20)...), compare(bytesOf('a', 1<<20), "=", number(1)), pre("b", bytesOf('x', 1<<20)), doubled} {
		// No filter is told here, for one has 2^40 nodes.
		if err := check.Check(plain(), f); err != api.ErrArg {
			t.Error("a filter that is too great is", err)
		}
	}
}

// parts are all filters in a filter, and it itself.
func parts(f api.Filter) []api.Filter {
	l := []api.Filter{f}
	for i := 0; i < len(l); i++ {
		l = append(l, l[i].L...)
	}
	return l
}

// slowNames are a filter's names, in this file's own way.
func slowNames(f api.Filter) []string {
	var l []string
	for _, part := range parts(f) {
		if part.Name != "" {
			l = append(l, part.Name)
		}
	}
	slices.Sort(l)
	return slices.Compact(l)
}

// slowType is a name's type, as its place in a list of two, or -1.
func slowType(s check.Schema, name string) int {
	for i := range s.Names {
		if s.Names[i] == name && s.Text[i] {
			return 1
		} else if s.Names[i] == name {
			return 0
		}
	}
	return -1
}

// slowCheck is Check's answer by a schema that may be, in this file's own way.
func slowCheck(s check.Schema, f api.Filter) error {
	if !filter.May(f) {
		return api.ErrArg
	}
	for _, name := range slowNames(f) {
		if slowType(s, name) < 0 {
			return api.ErrNone
		}
	}
	for _, part := range parts(f) {
		for _, v := range part.Vals {
			if part.Kind == api.FPre && slowType(s, part.Name) != 1 || (slowType(s, part.Name) == 1) != v.Text {
				return api.ErrType
			}
		}
	}
	return nil
}

// randomFilter is one of some names; at times a name isn't there, or has another type, or a part may not be.
func randomFilter(rnd *rand.Rand, deep int, whole int) api.Filter {
	if rnd.Intn(60) == 0 {
		return mayNot()[rnd.Intn(len(mayNot()))]
	}
	kind := 1 + rnd.Intn(7)
	if kind == whole && kind != api.FNot || deep == 0 && kind <= api.FNot {
		kind = api.FCmp
	}
	names := []string{"a", "b", "m", "n"}
	f := api.Filter{Kind: kind}
	if kind <= api.FNot {
		n := 1
		if kind != api.FNot {
			n = 2 + rnd.Intn(4)
		}
		for range n {
			f.L = append(f.L, randomFilter(rnd, deep-1, kind))
		}
		return f
	}
	if kind == api.FTrue {
		return f
	}
	i := rnd.Intn(4)
	f.Name = names[i]
	v := number(5)
	// Mostly the name's own type.
	if i%2 == 1 != (rnd.Intn(20) == 0) {
		v = text("x")
	} else if kind == api.FPre {
		f.Kind = api.FIn
	}
	if rnd.Intn(20) == 0 {
		f.Name = notThere()[rnd.Intn(len(notThere()))]
	}
	f.Vals = []api.Attr{v}
	switch f.Kind {
	case api.FCmp:
		f.Op = "<"
	case api.FIn:
		f.Vals = slices.Repeat(f.Vals, 1+rnd.Intn(3))
	}
	return f
}

// P8.1, P8.3: random filters; and of those that are well typed, each part is.
func TestRandomFilters(t *testing.T) {
	rnd := rand.New(rand.NewSource(8))
	counts := map[error]int{}
	for range 30000 {
		f := randomFilter(rnd, rnd.Intn(12), 0)
		want := slowCheck(plain(), f)
		wantCheck(t, plain(), want, f)
		counts[want]++
		if want == nil {
			wantCheck(t, plain(), nil, parts(f)...)
		}
		if t.Failed() {
			t.FailNow()
		}
	}
	for _, want := range []error{nil, api.ErrArg, api.ErrNone, api.ErrType} {
		if counts[want] < 1000 {
			t.Error("just", counts[want], "filters of", want)
		}
	}
}

// P8.3: a part of what is well typed is, be it as deep or as wide as may be.
func TestPartsOfWhatIsWellTyped(t *testing.T) {
	for _, f := range well() {
		for _, whole := range slices.Concat(holders(f), []api.Filter{nots(9, f), and(times(59, f)...), or(nots(8, f), and(f, f)), and(append(times(3, nots(8, f)), f)...)}) {
			wantCheck(t, plain(), nil, parts(whole)...)
		}
	}
}

// R2: nothing that is handed in is changed, not beyond its lists' ends either.
func TestNothingIsChanged(t *testing.T) {
	for _, s := range slices.Concat(schemasThatMay(), schemasThatMayNot()) {
		for _, f := range slices.Concat(mayNot()[:8], ill()[:4], well()[:4], holders(compare("z", "=", number(1)))) {
			l := []api.Attr{named("b", text("x")), named("a", number(1)), named("b", api.Attr{N: 1, S: "x"}), named("z", text("y"))}
			before := fmt.Sprint(s, f, l)
			check.Check(s, f)
			check.Names(f)
			check.Fits(s, l[:3])
			check.Fits(s, l[:2])
			if fmt.Sprint(s, f, l) != before {
				t.Fatal(before, "is now", s, f, l)
			}
		}
	}
}
