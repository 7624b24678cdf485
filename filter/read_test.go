package filter_test

import (
	"fmt"
	"math/rand"
	"regexp"
	"slices"
	"strings"
	"testing"
	"unsafe"

	"plover/api"
	"plover/filter"
	"plover/token"
)

// P7.2: texts of all sorts, the document's example first.
func TestRead(t *testing.T) {
	for _, c := range []struct {
		s    string
		want api.Filter
	}{
		{`a < 5 and (b = "x" or not c in (1))`, and(compare("a", "<", number(5)), or(compare("b", "=", text("x")), not(in("c", number(1)))))},
		{"true", always()},
		{"a<5", compare("a", "<", number(5))},
		{" a  <  5 ", compare("a", "<", number(5))},
		{`a="x"`, compare("a", "=", text("x"))},
		{`a ^= "x"`, pre("a", "x")},
		{`a^=""`, pre("a", "")},
		{"a in (1, 2)", in("a", number(1), number(2))},
		{"a in(1,2,1)", in("a", number(1), number(2), number(1))},
		{`a in ("x")`, in("a", text("x"))},
		{`a in ("x", "", "and", "5")`, in("a", text("x"), text(""), text("and"), text("5"))},
		{"a >=-9223372036854775808", compare("a", ">=", number(-1<<63))},
		{"not true", not(always())},
		{"not not true", not(not(always()))},
		{"not a = 1", not(is(1))},
		{"not(a = 1)", not(is(1))},
		{"not a = 1 and a = 2", and(not(is(1)), is(2))},
		{"not a = 1 or a = 2", or(not(is(1)), is(2))},
		{"a = 1 and not not a = 2", and(is(1), not(not(is(2))))},
		{"not not a = 1 or not a = 2", or(not(not(is(1))), not(is(2)))},
		{"a = 1 and a = 2", and(is(1), is(2))},
		{"a = 1 or a = 2", or(is(1), is(2))},
		{"a = 1 and a = 1", and(is(1), is(1))},
		{"a=1and a=2or a=3", or(and(is(1), is(2)), is(3))},
		{"true and true or true and true", or(and(always(), always()), and(always(), always()))},
		// The text's own order is kept.
		{"a = 3 or a = 1 or a = 2", or(is(3), is(1), is(2))},
		{"a = 3 and a = 1 and a = 2 and a = 0", and(is(3), is(1), is(2), is(0))},
		// An and binds more than an or, on whichever side it stands.
		{"a = 1 or a = 2 and a = 3", or(is(1), and(is(2), is(3)))},
		{"a = 1 and a = 2 or a = 3", or(and(is(1), is(2)), is(3))},
		{"a = 1 or a = 2 and a = 3 or a = 4", or(is(1), and(is(2), is(3)), is(4))},
		{"a = 1 and a = 2 or a = 3 and a = 4 or a = 5", or(and(is(1), is(2)), and(is(3), is(4)), is(5))},
		// Names that are nearly words, and texts that are words or signs.
		{"ands = 1 and nota = 2", and(compare("ands", "=", number(1)), compare("nota", "=", number(2)))},
		{"inn in (1)", in("inn", number(1))},
		{`a = "and" and a = "("`, and(compare("a", "=", text("and")), compare("a", "=", text("(")))},
	} {
		wantRead(t, c.s, c.want)
	}
	for _, op := range ops() {
		wantRead(t, "a"+op+"1", compare("a", op, number(1)))
		wantRead(t, "a "+op+` "1"`, compare("a", op, text("1")))
	}
}

// P7.2: what stands in brackets stands by itself; of the sort of what it is a part of, its parts count.
func TestBrackets(t *testing.T) {
	for _, c := range []struct {
		s    string
		want api.Filter
	}{
		{"(a = 1)", is(1)},
		{"((a = 1))", is(1)},
		{"(true)", always()},
		{"not (true)", not(always())},
		{"not ((a = 1))", not(is(1))},
		{"(not (not (a = 1)))", not(not(is(1)))},
		{"not (a = 1 and a = 2)", not(and(is(1), is(2)))},
		{"not (a = 1 or a = 2)", not(or(is(1), is(2)))},
		{"not (a = 1) and a = 2", and(not(is(1)), is(2))},
		{"(not a = 1) and a = 2", and(not(is(1)), is(2))},
		{"(a = 1 and a = 2) or a = 3", or(and(is(1), is(2)), is(3))},
		{"a = 1 or (a = 2 and a = 3)", or(is(1), and(is(2), is(3)))},
		{"(a = 1 or a = 2) and a = 3", and(or(is(1), is(2)), is(3))},
		{"a = 1 and (a = 2 or a = 3)", and(is(1), or(is(2), is(3)))},
		{"(a = 1 or a = 2) and (a = 3 or a = 4)", and(or(is(1), is(2)), or(is(3), is(4)))},
		{"(a = 1 or a = 2) or a = 3", or(is(1), is(2), is(3))},
		{"a = 1 or (a = 2 or a = 3)", or(is(1), is(2), is(3))},
		{"a = 1 or (a = 2 or a = 3) or a = 4", or(is(1), is(2), is(3), is(4))},
		{"(a = 1 or a = 2) or (a = 3 or a = 4)", or(is(1), is(2), is(3), is(4))},
		{"(a = 1 or a = 2)", or(is(1), is(2))},
		{"((a = 1 or (a = 2 or a = 3)))", or(is(1), is(2), is(3))},
		{"((a = 1 or a = 2)) or ((a = 3))", or(is(1), is(2), is(3))},
		{"(((a = 1 or a = 2) or a = 3) or a = 4) or a = 5", or(is(1), is(2), is(3), is(4), is(5))},
		{"a = 1 or (a = 2 or (a = 3 or (a = 4 or a = 5)))", or(is(1), is(2), is(3), is(4), is(5))},
		{"(a = 1 and a = 2) and a = 3", and(is(1), is(2), is(3))},
		{"a = 1 and (a = 2 and (a = 3 and a = 4)) and a = 5", and(is(1), is(2), is(3), is(4), is(5))},
		{"((a = 1 and a = 2) and (a = 3 and a = 4))", and(is(1), is(2), is(3), is(4))},
		// With a not or one of the other sort between them, both stay.
		{"a = 1 or not (a = 2 or a = 3)", or(is(1), not(or(is(2), is(3))))},
		{"a = 1 and not (a = 2 and a = 3)", and(is(1), not(and(is(2), is(3))))},
		{"a = 1 or (a = 2 and (a = 3 or a = 4))", or(is(1), and(is(2), or(is(3), is(4))))},
		{"a = 1 and (a = 2 or (a = 3 and a = 4))", and(is(1), or(is(2), and(is(3), is(4))))},
		// An and in brackets within an or is no part of the and's beside it.
		{"a = 1 or (a = 2 or a = 3) and a = 4", or(is(1), and(or(is(2), is(3)), is(4)))},
		{"a = 1 or (a = 2 or a = 3 and a = 4) or a = 5", or(is(1), is(2), and(is(3), is(4)), is(5))},
		{"a = 1 and ((a = 2 and a = 3) or a = 4) and a = 5", and(is(1), or(and(is(2), is(3)), is(4)), is(5))},
	} {
		wantRead(t, c.s, c.want)
	}
	wantRead(t, bytesOf('(', 247)+"a = 1"+bytesOf(')', 247), is(1))
	wantRead(t, bytesOf('(', 20)+"a=1"+strings.Repeat(" or a=2)", 20), or(append([]api.Filter{is(1)}, times(20, is(2))...)...))
	wantRead(t, strings.Repeat("(a=1 and ", 20)+"a=2"+bytesOf(')', 20), and(append(times(20, is(1)), is(2))...))
}

// P7.2: token.Cut's errors, though what stands ahead is no filter, either (R1).
func TestErrorsOfTokens(t *testing.T) {
	wantRefused(t, api.ErrLarge, bytesOf(' ', 501), bytesOf('(', 501), bytesOf('!', 501), "true"+bytesOf(' ', 497), bytesOf(' ', 497)+"true", bytesOf(' ', 1<<20), "a b"+bytesOf('A', 500))
	wantRefused(t, api.ErrLex, "A", "a = 05", "a in (-0)", "a = 9223372036854775808", `a = "x`, "a ! 5", "a ^ 5", "a < 5;", "a\t< 5", "é", "a = 1 b !", "( !", `a in (1, "x", 00)`, "not -", bytesOf('a', 21)+" = 1",
		`a = "`+bytesOf('x', 201)+`"`, strings.Repeat("not ", 20)+"A", bytesOf('A', 500), "a b"+bytesOf(' ', 496)+"A", bytesOf('(', 499)+"!")
	wantRead(t, "true"+bytesOf(' ', 496), always())
	wantRead(t, bytesOf(' ', 496)+"true", always())
}

// P7.2: what isn't read to its end.
func TestNotReadToItsEnd(t *testing.T) {
	wantRefused(t, api.ErrParse, "", " ", bytesOf(' ', 500))
	wantRefused(t, api.ErrParse, "true true", "true a", "true = 1", "a = 1 b", "a = 1 b = 2", "a = 1 2", "a = 1 = 2", "a = 1 )", "a = 1)", "(a = 1))", "true)", "true not", "true not true", "true ( true )",
		"a = 1 (a = 2)", "(a = 1) (a = 2)", "(true) true", "a = 1 not a = 2", "a < 5 < 6", "a = 1, a = 2", "a = 1 in (1)", "a in (1) in (2)", "a in (1) = 2", "a in (1))", `a ^= "x" "y"`, `a ^= "x" ^= "y"`, "not true true", "a = 1 <")
	wantRefused(t, api.ErrParse, "a", "a <", "a ^=", "a in", "a in (", "a in (1", "a in (1,", "not", "not not", "and", "or", "in", "(", ")", "()", "a = 1 and", "a = 1 or", "and a = 1", "or a = 1", "a = 1 and and a = 2",
		"a = 1 or or a = 2", "a = 1 and or a = 2", "a = 1 and not", "a = 1 or (", "not and", "not ()", "(a = 1", "((a = 1)", "(a = 1 or a = 2", "(a = 1 or (a = 2)", "(not", "a = 1 and (a = 2", "(true", ")true(", "(a = 1 and) a = 2")
	wantRefused(t, api.ErrParse, bytesOf('(', 500), bytesOf(')', 500), strings.Repeat("not ", 125), strings.Repeat("true ", 100), bytesOf('(', 248)+"true"+bytesOf(')', 247), bytesOf('(', 247)+"true"+bytesOf(')', 248))
}

// P7.2: words and signs where they don't belong, and values that are none.
func TestWordsAndSignsAmiss(t *testing.T) {
	for _, w := range words() {
		wantRefused(t, api.ErrParse, w+" = 1", w+` ^= "x"`, w+" in (1)", "a "+w+" 1", "a = "+w, "a ^= "+w, "a in "+w, "a in ("+w+")", "a in (1 "+w+" 2)", "a in (1, "+w+")", "a in (1, 2 "+w, "a "+w+" = 1", "a = 1 "+w, "( "+w+" )x")
	}
	for _, s := range []string{"(", ")", ",", "<", "<=", "=", "!=", ">=", ">", "^="} {
		wantRefused(t, api.ErrParse, s, s+" true", "true "+s, "a "+s, s+" 1", "a = "+s+" 1", "a "+s+" = 1", "a in "+s+" (1)", "a in (1 "+s+" 2", "a in (1 "+s+" 2) 3", "a in (1, "+s+")", "not "+s, "true and "+s, "true "+s+" true", "1 "+s+" 1")
		if !slices.Contains(ops(), s) {
			wantRefused(t, api.ErrParse, "a "+s+" 1", "a "+s+" b")
		}
		if s != "^=" && !slices.Contains(ops(), s) {
			wantRefused(t, api.ErrParse, "a "+s+` "x"`)
		}
		// A text isn't the sign or word that stands in it.
		wantRefused(t, api.ErrParse, `a "`+s+`" 1`, `a "`+s+`" "x"`, `a in "`+s+`" 1)`, `a in (1 "`+s+`" 2)`, `"`+s+`" true )`)
	}
	wantRefused(t, api.ErrParse, "5", `"x"`, "5 = 5", `"a" = 5`, "5 < a", "a = b", "a < a", "a a a", "a 1", `a "x"`, `"a" in (1)`, `"true"`, `true "and" true`, `"not" true`, `a "in" (1)`, "(a) = 1", "a (= 1)", "a = (1)", "a = not 1", "a not in (1)", "a not = 1",
		"a ^= 5", "a ^= b", `a ^= ("x")`, `a ^= not "x"`, `a ^= "x`+`"and`, "1 in (1)")
	wantRefused(t, api.ErrParse, "a in ()", "a in 1", `a in "x"`, "a in (,)", "a in (1,)", "a in (,1)", "a in (1,,2)", "a in (1 2)", "a in ((1))", "a in ((1), 2)", "a in (b)", "a in (1, b)", "a in (true)", "a in (1, a = 2)", "a in (1", `a in ("x"`, "a in 1)", "a in (1, 2", "a in )1(", "in (1)", "in a (1)", "a in (1 or 2)")
}

// P7.2: an FIn of numbers and texts is no filter, in whichever order, and though there are too many of them.
func TestNumbersAndTexts(t *testing.T) {
	wantRefused(t, api.ErrParse, `a in (1, "x")`, `a in ("x", 1)`, `a in (1, 2, "x")`, `a in ("x", "y", 1)`, `a in (1, "x", 2)`, `a in ("x", 1, "y")`, `a in (0, "")`, `not a in (1, "x")`, `true and a in (1, "1")`, `(a in (1, "x") or true)`,
		"a in ("+strings.Repeat("1,", 20)+`"x")`, `a in ("x"`+strings.Repeat(",1", 20)+")", "a in ("+strings.Repeat(`"x",`, 20)+"1)")
}

// listed is an FIn's text, of so many numbers.
func listed(n int) string { return "a in (" + strings.Repeat("1,", n-1) + "1)" }

// P7.2: 20 values are well, 21 are too many.
func TestTooManyValues(t *testing.T) {
	for n := 1; n <= 20; n++ {
		wantRead(t, listed(n), in("a", slices.Repeat([]api.Attr{number(1)}, n)...))
		wantRead(t, strings.ReplaceAll(listed(n), "1", `"1"`), in("a", slices.Repeat([]api.Attr{text("1")}, n)...))
	}
	for _, n := range []int{21, 22, 40, 41, 100, 247} {
		wantRefused(t, api.ErrLarge, listed(n), "true or "+listed(min(n, 240)), "("+listed(min(n, 240))+")", "true and not ("+listed(min(n, 235))+" or true)")
	}
	wantRefused(t, api.ErrLarge, strings.ReplaceAll(listed(21), "1", `"1"`), strings.ReplaceAll(listed(120), "1", `""`))
	// R1: ErrParse is named first.
	wantRefused(t, api.ErrParse, listed(21)+")", listed(21)+" true", "("+listed(21), listed(21)+" and", "not "+listed(21)+" a")
}

// P7.2: 10 deep is well, 11 isn't; brackets, and parts that count elsewhere, make nothing deeper.
func TestTooDeep(t *testing.T) {
	for n := range 10 {
		wantRead(t, strings.Repeat("not ", n)+"true", nots(n, always()))
		wantRead(t, strings.Repeat("not (", n)+"a = 1"+bytesOf(')', n), nots(n, is(1)))
	}
	for _, n := range []int{10, 11, 12, 50, 124} {
		wantRefused(t, api.ErrLarge, strings.Repeat("not ", n)+"true", strings.Repeat("not(", min(n, 99))+"true"+bytesOf(')', min(n, 99)), "("+strings.Repeat("not ", min(n, 123))+"true)")
		wantRefused(t, api.ErrParse, strings.Repeat("not ", n), strings.Repeat("not ", min(n, 123))+"true)", "("+strings.Repeat("not ", min(n, 123))+"true")
	}
	// Ors and ands by turns: each pair of brackets is one layer.
	by := func(n int) string {
		s := "true"
		for i := range n {
			s = "(" + s + []string{" and ", " or "}[i%2] + "true)"
		}
		return s
	}
	for n := range 10 {
		if f, err := filter.Read(by(n)); err != nil || deepOf(f) != n+1 {
			t.Error(by(n), f, err)
		}
	}
	for n := 10; n < 25; n++ {
		wantRefused(t, api.ErrLarge, by(n), "true and "+by(n))
	}
	wantRefused(t, api.ErrLarge, "true and "+by(9)+" or true and not not not not true and (true or not "+by(8)+")")
	wantRead(t, strings.Repeat("(", 50)+"not(true)"+strings.Repeat(")", 50), not(always()))
}

// P7.2: 60 nodes are well, 61 are too many.
func TestTooManyNodes(t *testing.T) {
	for _, word := range []string{" or ", " and ", "or ", "and "} {
		join := or
		if strings.Contains(word, "and") {
			join = and
		}
		row := func(n int) string { return strings.Repeat("a=1"+word, n-1) + "a=1" }
		wantRead(t, row(2), join(times(2, is(1))...))
		wantRead(t, row(58), join(times(58, is(1))...))
		wantRead(t, row(59), join(times(59, is(1))...))
		wantRefused(t, api.ErrLarge, row(60), row(61), row(62), "("+row(60)+")")
		wantRefused(t, api.ErrParse, row(60)+")", row(60)+" a", "("+row(60), row(60)+word)
		wantRead(t, "("+row(30)+")"+word+"("+row(29)+")", join(times(59, is(1))...))
		wantRefused(t, api.ErrLarge, "("+row(30)+")"+word+"("+row(30)+")")
		// 1 + 58 + a not of one.
		wantRead(t, row(57)+word+"not a=1", join(append(times(57, is(1)), not(is(1)))...))
		wantRefused(t, api.ErrLarge, row(58)+word+"not a=1")
	}
	// 1 + 10*(1 + 4) + 9 are 60.
	ten := strings.Repeat("(true or true or true or true)and ", 10)
	if f, err := filter.Read(ten + strings.Repeat("a=1and ", 8) + "a=1"); err != nil || nodesOf(f) != 60 {
		t.Error(f, err)
	}
	wantRefused(t, api.ErrLarge, ten+strings.Repeat("a=1and ", 9)+"a=1", ten+strings.Repeat("a=1and ", 8)+"not a=1")
}

// deepOf is how deep a filter is.
func deepOf(f api.Filter) int {
	deepest := 0
	for _, part := range f.L {
		deepest = max(deepest, deepOf(part))
	}
	return deepest + 1
}

// nodesOf is how many nodes a filter has.
func nodesOf(f api.Filter) int {
	n := 1
	for _, part := range f.L {
		n += nodesOf(part)
	}
	return n
}

// slowRead reads by cutting where a word stands outside of all brackets; false, if it can't be done.
func slowRead(l []token.Token) (api.Filter, bool) {
	for _, c := range []struct {
		word string
		kind int
	}{{"or", api.FOr}, {"and", api.FAnd}} {
		if pieces := apart(l, c.word); len(pieces) > 1 {
			return slowJoin(c.kind, pieces)
		}
	}
	if len(l) > 0 && l[0].Kind == token.Word && l[0].S == "not" {
		f, ok := slowRead(l[1:])
		return not(f), ok
	}
	if n := len(l); n > 1 && isSign(l[0], "(") && isSign(l[n-1], ")") {
		return slowRead(l[1 : n-1])
	}
	return slowLeaf(l)
}

// isSign tells whether a token is a sign.
func isSign(t token.Token, sign string) bool { return t.Kind == token.Sign && t.S == sign }

// apart cuts a row where a word stands outside of all brackets.
func apart(l []token.Token, word string) [][]token.Token {
	var pieces [][]token.Token
	open, from := 0, 0
	for i, t := range l {
		if isSign(t, "(") {
			open++
		}
		if isSign(t, ")") {
			open--
		}
		if open == 0 && t.Kind == token.Word && t.S == word {
			pieces = append(pieces, l[from:i])
			from = i + 1
		}
	}
	return append(pieces, l[from:])
}

// slowJoin is what pieces are, joined.
func slowJoin(kind int, pieces [][]token.Token) (api.Filter, bool) {
	f := api.Filter{Kind: kind}
	for _, piece := range pieces {
		part, ok := slowRead(piece)
		if !ok {
			return f, false
		}
		if part.Kind == kind {
			f.L = append(f.L, part.L...)
		} else {
			f.L = append(f.L, part)
		}
	}
	return f, true
}

// leafForm is what a leaf's tokens are, each told by one byte, or by itself, and a space.
var leafForm = regexp.MustCompile(`^(true|n (<|<=|=|!=|>=|>) [0"]|n \^= "|n in \( (0( , 0)*|"( , ")*) \)) $`)

// slowLeaf is a filter without parts.
func slowLeaf(l []token.Token) (api.Filter, bool) {
	var form strings.Builder
	var vals []api.Attr
	for _, t := range l {
		switch t.Kind {
		case token.Name:
			form.WriteString("n ")
		case token.Number:
			form.WriteString("0 ")
			vals = append(vals, number(t.N))
		case token.Text:
			form.WriteString(`" `)
			vals = append(vals, text(t.S))
		default:
			form.WriteString(t.S + " ")
		}
	}
	if !leafForm.MatchString(form.String()) {
		return api.Filter{}, false
	}
	switch {
	case len(l) == 1:
		return always(), true
	case l[1].S == "in":
		return in(l[0].S, vals...), true
	case l[1].S == "^=":
		return pre(l[0].S, vals[0].S), true
	}
	return compare(l[0].S, l[1].S, vals[0]), true
}

// mostValues is how many values one filter in another has at most.
func mostValues(f api.Filter) int {
	most := len(f.Vals)
	for _, part := range f.L {
		most = max(most, mostValues(part))
	}
	return most
}

// wantSlow ends a test if a text isn't read as the slow way reads it, and tells whether it is a filter's.
func wantSlow(t *testing.T, s string) bool {
	t.Helper()
	l, err := token.Cut(s)
	want, ok := slowRead(l)
	switch {
	case err != nil:
		wantRefused(t, err.(api.Code), s)
	case !ok:
		wantRefused(t, api.ErrParse, s)
	case deepOf(want) > 10 || nodesOf(want) > 60 || mostValues(want) > 20:
		wantRefused(t, api.ErrLarge, s)
	default:
		wantRead(t, s, want)
		wantTextBack(t, want)
		if t.Failed() {
			t.FailNow()
		}
		return true
	}
	if t.Failed() {
		t.FailNow()
	}
	return false
}

// wantTextBack fails if a filter that may be has no text, or one that isn't read as the filter.
func wantTextBack(t *testing.T, f api.Filter) {
	t.Helper()
	wantMay(t, f)
	s, err := filter.Text(f)
	if err != nil {
		return
	}
	if len(s) > api.MaxFilter {
		wantRefused(t, api.ErrLarge, s)
	} else {
		wantRead(t, s, f)
	}
}

// every calls f with all rows of up to n of the pieces, behind s.
func every(s string, pieces []string, n int, f func(s string)) {
	f(s)
	if n == 0 {
		return
	}
	for _, piece := range pieces {
		every(s+" "+piece, pieces, n-1, f)
	}
}

// P7.2, P7.4: every short row of tokens.
func TestEveryShortRow(t *testing.T) {
	for _, c := range []struct {
		pieces []string
		n      int
	}{
		{[]string{"a", "5", `"x"`, "=", "<=", "^=", "(", ")", ",", "and", "or", "not", "in", "true"}, 4},
		{[]string{"true", "and", "or", "not", "(", ")"}, 7},
		{[]string{"true", "b>1", "and", "or", "(", ")"}, 7},
		{[]string{"(true and true)", "(true or true)", "not", "and", "or", "true", "(", ")"}, 5},
		{[]string{"a in (", "1", `"x"`, ",", ")", "not", "(", "a"}, 5},
		{[]string{"a in", "(", ")", ",", "1", `"x"`}, 6},
	} {
		filters := 0
		every("", c.pieces, c.n, func(s string) {
			if wantSlow(t, s) {
				filters++
			}
		})
		if filters < 5 {
			t.Error("just", filters, "filters of", c.pieces)
		}
	}
}

// randomValue is a number or a text.
func randomValue(rnd *rand.Rand, isText bool) api.Attr {
	if isText {
		b := make([]byte, rnd.Intn(4))
		for i := range b {
			b[i] = "ab ()=,<>5andort!~"[rnd.Intn(18)]
		}
		return text(string(b))
	}
	return number(int64(rnd.Uint64()) >> rnd.Intn(64))
}

// randomLeaf is a filter without parts, that may be.
func randomLeaf(rnd *rand.Rand) api.Filter {
	name := []string{"a", "b1", "zz", "android", bytesOf('n', 20)}[rnd.Intn(5)]
	isText := rnd.Intn(2) == 0
	switch rnd.Intn(5) {
	case 0:
		return always()
	case 1:
		return pre(name, randomValue(rnd, true).S)
	case 2:
		var l []api.Attr
		for range 1 + rnd.Intn(3) + rnd.Intn(2)*rnd.Intn(18) {
			l = append(l, randomValue(rnd, isText))
		}
		return in(name, l...)
	}
	return compare(name, ops()[rnd.Intn(6)], randomValue(rnd, isText))
}

// randomFilter is one that may be, but for how deep it is, and how many nodes it has.
func randomFilter(rnd *rand.Rand, deep int, whole int) api.Filter {
	kind := rnd.Intn(4)
	if deep == 0 || kind == 0 || kind == whole && kind != api.FNot {
		return randomLeaf(rnd)
	}
	f := api.Filter{Kind: kind}
	n := 1
	if kind != api.FNot {
		n = 2 + rnd.Intn(2)*rnd.Intn(6)
	}
	for range n {
		f.L = append(f.L, randomFilter(rnd, deep-1, kind))
	}
	return f
}

// P7.1, P7.2, P7.4: random filters, of all sizes: whether they may be, their texts, and those read.
func TestRandomFilters(t *testing.T) {
	rnd := rand.New(rand.NewSource(7))
	small, large, amiss := 0, 0, 0
	for range 20000 {
		f := randomFilter(rnd, rnd.Intn(13), 0)
		if deepOf(f) > 10 || nodesOf(f) > 60 {
			wantMayNot(t, f)
			amiss++
		} else {
			wantTextBack(t, f)
			if s, _ := filter.Text(f); len(s) > api.MaxFilter {
				large++
			} else {
				small++
			}
		}
		if t.Failed() {
			t.FailNow()
		}
	}
	if small < 3000 || large < 1000 || amiss < 1000 {
		t.Error("filters with small texts, with large ones, and too great ones:", small, large, amiss)
	}
}

// spoil makes a text another one, that is no filter's at times.
func spoil(rnd *rand.Rand, s string) string {
	l := strings.Split(s, " ")
	i, j := rnd.Intn(len(l)), rnd.Intn(len(l))
	switch rnd.Intn(5) {
	case 0:
		l = slices.Delete(l, i, i+1)
	case 1:
		l[i], l[j] = l[j], l[i]
	case 2:
		l = slices.Insert(l, i, l[j])
	case 3:
		l = slices.Insert(l, i, []string{"(", ")", "not", "and", "or", "in", "true", ",", "=", "a", "(true or true)", "5"}[rnd.Intn(12)])
	}
	return strings.Join(l, " ")
}

// P7.2: texts of random filters, with a piece too many, too few, or elsewhere.
func TestRandomTexts(t *testing.T) {
	rnd := rand.New(rand.NewSource(72))
	filters, others := 0, 0
	for filters+others < 20000 {
		s, err := filter.Text(randomFilter(rnd, rnd.Intn(5), 0))
		if err != nil {
			continue
		}
		s = strings.NewReplacer("(", "( ", ")", " )").Replace(s)
		for range 1 + rnd.Intn(2) {
			s = spoil(rnd, s)
		}
		if wantSlow(t, s) {
			filters++
		} else {
			others++
		}
	}
	if filters < 3000 || others < 3000 {
		t.Error("filters, and others:", filters, others)
	}
}

// P7.4: a text of 500 bytes is read as its filter; one of 501 is too long.
func TestTextsAtTheLimit(t *testing.T) {
	for n := range 200 {
		f := or(pre("a", bytesOf('x', 200)), pre("b", bytesOf('y', 200)), pre("c", bytesOf('z', n)))
		s, err := filter.Text(f)
		if err != nil || len(s) != 429+n {
			t.Fatal(len(s), err)
		}
		wantTextBack(t, f)
		if _, err := filter.Read(s); (err == nil) != (len(s) <= 500) {
			t.Error(len(s), err)
		}
	}
	whole := in("a", slices.Repeat([]api.Attr{text(bytesOf('x', 200))}, 20)...)
	if s, err := filter.Text(or(times(59, whole)...)); err != nil || len(s) != 59*(8+20*202+19*2)+58*4-59 {
		t.Error("the longest text has", len(s), "bytes", err)
	}
}

// place is the memory of a string.
func place(s string) *byte { return unsafe.StringData(s) }

// stringsOf is all strings of a filter that have bytes.
func stringsOf(f api.Filter) []string {
	l := []string{f.Name, f.Op}
	for _, v := range f.Vals {
		l = append(l, v.S)
	}
	for _, part := range f.L {
		l = append(l, stringsOf(part)...)
	}
	return slices.DeleteFunc(l, func(s string) bool { return s == "" })
}

// P7.3, R2: what is read shares no memory with the text.
func TestReadIsNewMemory(t *testing.T) {
	s := strings.Clone(`abc < 5 and (bcd = "xyz" or not cde in ("uvw", "rst")) and def ^= "pqr"`)
	f, err := filter.Read(s)
	if err != nil {
		t.Fatal(err)
	}
	from, to := uintptr(unsafe.Pointer(place(s))), uintptr(unsafe.Pointer(place(s)))+uintptr(len(s))
	for _, part := range stringsOf(f) {
		if p := uintptr(unsafe.Pointer(place(part))); from <= p && p < to {
			t.Errorf("%q is a piece of the text", part)
		}
	}
	if len(stringsOf(f)) != 10 {
		t.Error(stringsOf(f))
	}
}

// elements counts how often each element of a filter's lists stands in one, up to their capacities.
func elements(f api.Filter, vals map[*api.Attr]int, parts map[*api.Filter]int) {
	for i := range f.Vals[:cap(f.Vals)] {
		vals[&f.Vals[:cap(f.Vals)][i]]++
	}
	for i := range f.L[:cap(f.L)] {
		parts[&f.L[:cap(f.L)][i]]++
	}
	for _, part := range f.L {
		elements(part, vals, parts)
	}
}

// wantOnce fails if one of the numbers isn't 1.
func wantOnce[K comparable](t *testing.T, s string, m map[K]int) {
	t.Helper()
	for _, n := range m {
		if n != 1 {
			t.Errorf("%q: an element stands in %v lists", s, n)
		}
	}
}

// P7.3, R2: no two filters that are read share a list, nor do two parts of one.
func TestListsAreNotShared(t *testing.T) {
	for _, s := range []string{
		"a = 1", "a in (1, 2, 3)", "a = 1 and (b = 2 or c = 3) and not d in (4, 5)", "(a = 1 or b = 2) or (c = 3 or d = 4) or e = 5",
		"((a = 1 and b = 2) and c = 3) or ((a = 1 and b = 2) and c = 3)", "not (a = 1 or (b = 2 or (c = 3 and d = 4)))",
		"(a in (1, 2) and b in (1, 2)) or (a in (1, 2) and b in (1, 2))", "(((a = 1)) or (b = 2 or c = 3 or d = 4 or e = 5)) and (f = 6 and g = 7)",
	} {
		vals, parts := map[*api.Attr]int{}, map[*api.Filter]int{}
		for range 2 {
			f, err := filter.Read(s)
			if err != nil {
				t.Fatal(s, err)
			}
			elements(f, vals, parts)
		}
		wantOnce(t, s, vals)
		wantOnce(t, s, parts)
	}
}

// P7.3, R2: no call changes a filter that is handed in, and no text shares memory with it.
func TestFiltersStayAsTheyAre(t *testing.T) {
	for _, f := range slices.Concat(fields(), []api.Filter{and(or(is(1), pre("abc", "xyz")), not(in("b", texts(5)...)), always())}) {
		before := fmt.Sprint(f)
		filter.May(f)
		filter.Same(f, f)
		s, _ := filter.Text(f)
		if fmt.Sprint(f) != before {
			t.Error(before, "is now", f)
		}
		for _, part := range stringsOf(f) {
			from, to := uintptr(unsafe.Pointer(place(part))), uintptr(unsafe.Pointer(place(part)))+uintptr(len(part))
			if p := uintptr(unsafe.Pointer(place(s))); from <= p && p < to {
				t.Errorf("%q is a piece of %v", s, f)
			}
		}
	}
}

// P1, P7.2, P7.4: whatever a text is, it is read as the slow way reads it.
func FuzzRead(f *testing.F) {
	for _, s := range []string{"", "a<5", `a < 5 and (b = "x" or not c in (1))`, "(a = 1 or b = 2) or c in (1,2)", "not not true", listed(21), strings.Repeat("not ", 10) + "true", `a in (1, "x")`, "a ( 1"} {
		f.Add(s)
	}
	f.Fuzz(func(t *testing.T, s string) { wantSlow(t, s) })
}
