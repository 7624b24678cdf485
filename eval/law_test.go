package eval_test

import (
	"math"
	"math/big"
	"math/rand"
	"slices"
	"strconv"
	"testing"

	"plover/api"
	"plover/check"
	"plover/eval"
	"plover/filter"
)

// slowHolds is an oracle: it counts the parts that hold, and tries values one against the other by slower means.
func slowHolds(f api.Filter, l []api.Attr) bool {
	hold := 0
	for _, part := range f.L {
		if slowHolds(part, l) {
			hold++
		}
	}
	switch f.Kind {
	case 1:
		return hold == len(f.L)
	case 2:
		return hold > 0
	case 3:
		return len(f.L) > 0 && !slowHolds(f.L[0], l)
	case 7:
		return true
	}
	var own []api.Attr
	for _, a := range l {
		if a.Name == f.Name {
			own = append(own, a)
		}
	}
	if len(own) == 0 {
		return false
	}
	switch f.Kind {
	case 4:
		return len(f.Vals) > 0 && slowStands(own[0], f.Op, f.Vals[0])
	case 5:
		return len(f.Vals) > 0 && own[0].Text && f.Vals[0].Text && slowBegins([]byte(own[0].S), []byte(f.Vals[0].S))
	case 6:
		same := 0
		for _, v := range f.Vals {
			if slowStands(own[0], "=", v) {
				same++
			}
		}
		return same > 0
	}
	return false
}

// slowBegins tells whether bytes begin with others.
func slowBegins(whole, first []byte) bool {
	for i, c := range first {
		if i == len(whole) || whole[i] != c {
			return false
		}
	}
	return true
}

// slowStands tells whether an attribute stands to a value so.
func slowStands(a api.Attr, op string, v api.Attr) bool {
	if a.Text && !v.Text || v.Text && !a.Text {
		return false
	}
	less, more := false, false
	if a.Text {
		less, more = slowLess([]byte(a.S), []byte(v.S)), slowLess([]byte(v.S), []byte(a.S))
	} else {
		sign := new(big.Int).Sub(big.NewInt(a.N), big.NewInt(v.N)).Sign()
		less, more = sign < 0, sign > 0
	}
	return op == "<" && less || op == ">" && more || op == "=" && !less && !more || op == "!=" && (less || more) || op == "<=" && !more || op == ">=" && !less
}

// slowLess tells whether bytes stand ahead of others.
func slowLess(a, b []byte) bool {
	for i := 0; i < len(a) && i < len(b); i++ {
		if a[i] != b[i] {
			return a[i] < b[i]
		}
	}
	return len(a) < len(b)
}

// anyNames are the names of random filters and attributes.
func anyNames() []string { return []string{"a", "b", "c", "ab", ""} }

// plainValue is a number or a text of few.
func plainValue(rnd *rand.Rand) api.Attr {
	numbers, texts := []int64{-1, 0, 1, 2, math.MinInt64, math.MaxInt64}, []string{"", "a", "ab", "b"}
	if rnd.Intn(2) > 0 {
		return text(texts[rnd.Intn(len(texts))])
	}
	return number(numbers[rnd.Intn(len(numbers))])
}

// anyValue is a number or a text of few, at times with the other one beside it.
func anyValue(rnd *rand.Rand) api.Attr {
	v := plainValue(rnd)
	if rnd.Intn(8) == 0 {
		beside := plainValue(rnd)
		v.N, v.S = v.N+beside.N, v.S+beside.S
	}
	return v
}

// anyAttrs are up to n attributes of few names, so that many have the same one.
func anyAttrs(rnd *rand.Rand, n int) []api.Attr {
	var l []api.Attr
	for range rnd.Intn(n + 1) {
		l = append(l, of(anyNames()[rnd.Intn(len(anyNames()))], anyValue(rnd)))
	}
	return l
}

// mayBe is a filter that may be, at most so deep.
func mayBe(rnd *rand.Rand, deep int) api.Filter {
	if kind := 1 + rnd.Intn(4); deep > 1 && kind <= api.FNot {
		f := api.Filter{Kind: kind}
		if kind == api.FNot {
			f.L = append(f.L, mayBe(rnd, deep-1))
			return f
		}
		for range 2 + rnd.Intn(3) {
			part := mayBe(rnd, deep-1)
			if part.Kind == kind {
				part = always()
			}
			f.L = append(f.L, part)
		}
		return f
	}
	name, v := anyNames()[rnd.Intn(4)], plainValue(rnd)
	switch {
	case rnd.Intn(12) == 0:
		return always()
	case rnd.Intn(2) == 0:
		return compare(name, ops()[rnd.Intn(6)], v)
	case v.Text && rnd.Intn(2) == 0:
		return pre(name, v)
	}
	f := in(name, v)
	for range rnd.Intn(4) {
		if v := plainValue(rnd); v.Text == f.Vals[0].Text {
			f.Vals = append(f.Vals, v)
		}
	}
	return f
}

// spoil gives at times a filter, and its parts, fields that may not be.
func spoil(rnd *rand.Rand, f *api.Filter) {
	for i := range f.L {
		spoil(rnd, &f.L[i])
	}
	switch rnd.Intn(24) {
	case 0:
		f.Kind = rnd.Intn(12) - 2
	case 1:
		f.Kind, f.Op = api.FCmp, []string{"", "==", "^=", "a"}[rnd.Intn(4)]
	case 2:
		f.Vals = nil
	case 3:
		f.L = nil
	case 4:
		f.Vals = append([]api.Attr{anyValue(rnd)}, f.Vals...)
	case 5:
		f.L = append(f.L, mayBe(rnd, 2))
	case 6:
		f.Name = anyNames()[rnd.Intn(5)]
	}
}

// anyFilter is a filter at most so deep, that may be in some of all times.
func anyFilter(rnd *rand.Rand, deep int) api.Filter {
	f := mayBe(rnd, deep)
	if rnd.Intn(2) == 0 {
		spoil(rnd, &f)
	}
	return f
}

// shares tells how often a property was so and not, so that a test that never comes to one of both fails.
type shares struct{ yes, no int }

func (s *shares) count(yes bool) {
	if yes {
		s.yes++
	} else {
		s.no++
	}
}

func (s *shares) want(t *testing.T, least int) {
	t.Helper()
	if s.yes < least || s.no < least {
		t.Error("just", s.yes, "hold, and", s.no, "don't")
	}
}

// P9.1: random filters of any fields, of random attributes, few and many, against the oracle.
func TestRandom(t *testing.T) {
	rnd := rand.New(rand.NewSource(91))
	var all, may shares
	for range 200000 {
		f, l := anyFilter(rnd, rnd.Intn(6)), anyAttrs(rnd, []int{2, 5, 16, 17, 30}[rnd.Intn(5)])
		want := slowHolds(f, l)
		if got := eval.Holds(f, l); got != want {
			t.Fatalf("%v of %v: %v", f, l, got)
		}
		all.count(want)
		if filter.May(f) {
			may.count(want)
		}
	}
	all.want(t, 40000)
	may.want(t, 20000)
}

// P9.2: not not f holds as f, and not f as f doesn't.
func TestNotNot(t *testing.T) {
	rnd := rand.New(rand.NewSource(92))
	var seen shares
	for range 50000 {
		f, l := anyFilter(rnd, rnd.Intn(5)), anyAttrs(rnd, 20)
		want := eval.Holds(f, l)
		if eval.Holds(not(f), l) == want || eval.Holds(not(not(f)), l) != want || eval.Holds(not(not(not(f))), l) == want || eval.Holds(not(not(not(not(f)))), l) != want {
			t.Fatalf("nots of %v, of %v", f, l)
		}
		seen.count(want)
	}
	seen.want(t, 10000)
}

// P9.2: not of all is one not, and not of one is all not, of any number of parts.
func TestNotOfAll(t *testing.T) {
	rnd := rand.New(rand.NewSource(93))
	var all, one shares
	for range 50000 {
		l := anyAttrs(rnd, 20)
		var parts, nots []api.Filter
		for range rnd.Intn(6) {
			f := anyFilter(rnd, rnd.Intn(3))
			parts, nots = append(parts, f), append(nots, not(f))
		}
		if eval.Holds(not(and(parts...)), l) != eval.Holds(or(nots...), l) {
			t.Fatalf("not of all of %v, of %v", parts, l)
		}
		if eval.Holds(not(or(parts...)), l) != eval.Holds(and(nots...), l) {
			t.Fatalf("not of one of %v, of %v", parts, l)
		}
		all.count(eval.Holds(and(parts...), l))
		one.count(eval.Holds(or(parts...), l))
	}
	all.want(t, 5000)
	one.want(t, 5000)
}

// P9.2: what doesn't name an attribute doesn't hang on it: on whether it is there, where, how often, and on what it has.
func TestOthersDontCount(t *testing.T) {
	rnd := rand.New(rand.NewSource(94))
	var seen shares
	for range 50000 {
		f, l := anyFilter(rnd, rnd.Intn(5)), anyAttrs(rnd, 20)
		named := append(check.Names(f), "")
		without := slices.DeleteFunc(slices.Clone(l), func(a api.Attr) bool { return !slices.Contains(named, a.Name) })
		with := slices.Clone(l)
		for range rnd.Intn(20) {
			other := of([]string{"aa", "A", "abc", "z" + strconv.Itoa(rnd.Intn(9))}[rnd.Intn(4)], anyValue(rnd))
			with = slices.Insert(with, rnd.Intn(len(with)+1), other)
		}
		changed := slices.Clone(l)
		for i, a := range changed {
			if !slices.Contains(named, a.Name) {
				changed[i] = of(a.Name, anyValue(rnd))
			}
		}
		want := eval.Holds(f, l)
		if eval.Holds(f, without) != want || eval.Holds(f, with) != want || eval.Holds(f, changed) != want {
			t.Fatalf("%v hangs on what it doesn't name: of %v, of %v, of %v, of %v", f, l, without, with, changed)
		}
		seen.count(want)
	}
	seen.want(t, 10000)
}

// copied is a filter in new memory.
func copied(f api.Filter) api.Filter {
	f.Vals = slices.Clone(f.Vals)
	f.L = slices.Clone(f.L)
	for i, part := range f.L {
		f.L[i] = copied(part)
	}
	return f
}

// R2: nothing that is handed in is changed, nor anything that lies behind its lists.
func TestNothingIsChanged(t *testing.T) {
	rnd := rand.New(rand.NewSource(95))
	for range 10000 {
		f, whole := anyFilter(rnd, rnd.Intn(5)), anyAttrs(rnd, 40)
		wantF, wantL := copied(f), slices.Clone(whole)
		l := whole[:rnd.Intn(len(whole)+1)]
		first := eval.Holds(f, l)
		if eval.Holds(f, l) != first {
			t.Fatalf("%v of %v: one time so, one time not", f, l)
		}
		if !filter.Same(f, wantF) || !slices.Equal(whole, wantL) {
			t.Fatalf("%v of %v was changed", wantF, wantL)
		}
	}
}

// P9.1: what was asked before doesn't count: one filter and one list of attributes, changed in between.
func TestNothingIsKept(t *testing.T) {
	for _, n := range []int{0, 40} {
		l := append(fillers(n), of("a", number(5)))
		a := &l[len(l)-1]
		f := and(compare("a", "=", number(5)), always())
		if !eval.Holds(f, l) {
			t.Error("first")
		}
		if a.N = 6; eval.Holds(f, l) {
			t.Error("an attribute's number is another one")
		}
		if f.L[0].Vals[0].N = 6; !eval.Holds(f, l) {
			t.Error("so is the filter's")
		}
		if a.Name = "b"; eval.Holds(f, l) {
			t.Error("an attribute's name is another one")
		}
		if f.L[0] = never(); eval.Holds(f, l) {
			t.Error("a part is another one")
		}
	}
}

// P1: filters may be as deep as the document's bound: whether they hold hangs on what lies deepest.
func TestGreatDepth(t *testing.T) {
	const deep = 1<<16 - 1
	l := []api.Attr{of("a", number(5))}
	for _, yes := range []bool{false, true} {
		leaf := compare("a", map[bool]string{true: "=", false: "!="}[yes], number(5))
		nots, ands, ors, mixed := leaf, leaf, leaf, leaf
		for i := range deep {
			nots = not(nots)
			ands = and(always(), ands)
			ors = or(never(), ors)
			mixed = []api.Filter{or(mixed, not(mixed, never())), and(mixed, always()), not(not(mixed)), and(mixed)}[i%4]
			if i%4 == 0 {
				mixed.L = mixed.L[:1]
			}
		}
		if eval.Holds(nots, l) == yes || eval.Holds(ands, l) != yes || eval.Holds(ors, l) != yes || eval.Holds(mixed, l) != yes {
			t.Error("deep filters of what holds", yes)
		}
	}
}

// P1: filters may have many nodes, and many values, and attributes may be many, all at once.
func TestGreatNumbers(t *testing.T) {
	const n = 1 << 18
	var l []api.Attr
	var yes, no, vals []api.Filter
	var many []api.Attr
	for i := range n {
		name := strconv.Itoa(1<<30 + i)
		l = append(l, of(name, number(int64(i))))
		yes = append(yes, compare(name, "=", number(int64(i))))
		no = append(no, compare(name, ">", number(int64(i))))
		vals = append(vals, in(name, number(int64(i))))
		many = append(many, text(name))
	}
	twice := append(slices.Clone(l), l...)
	for i := range n {
		twice[n+i].N++
	}
	for _, l := range [][]api.Attr{l, twice} {
		if !eval.Holds(and(yes...), l) || eval.Holds(or(no...), l) || !eval.Holds(and(and(vals...), not(or(no...))), l) {
			t.Error("many parts of", len(l), "attributes")
		}
	}
	last := []api.Attr{of("a", many[n-1])}
	if !eval.Holds(in("a", many...), last) || eval.Holds(in("a", many[:n-1]...), last) || eval.Holds(in("b", many...), last) {
		t.Error("many values")
	}
	doubled := and(compare("a", "=", text("x")), always())
	for range 18 {
		doubled = and(doubled, doubled)
	}
	if !eval.Holds(doubled, []api.Attr{of("a", text("x"))}) || eval.Holds(doubled, last) {
		t.Error("parts that share their memory")
	}
}

// P1: texts may be long.
func TestGreatTexts(t *testing.T) {
	long := bytesOf('x', 1<<24)
	l := []api.Attr{of("a", text(long+"b"))}
	wantAll(t, l, pre("a", text(long)), compare("a", ">", text(long)), compare("a", "<", text(long+"c")), in("a", text(long), text(long+"b")))
	wantNone(t, l, pre("a", text(long+"c")), pre("a", text(long+"bb")), compare("a", "=", text(long+"c")), in("a", text(long), text(long+"a")))
}
