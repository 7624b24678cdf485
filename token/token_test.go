package token_test

import (
	"math"
	"math/big"
	"math/rand"
	"regexp"
	"slices"
	"strings"
	"testing"
	"unsafe"

	"plover/api"
	"plover/token"
)

// Tokens as the tables tell them: their places stand ahead.

func name(at int, s string) token.Token  { return token.Token{Kind: token.Name, At: at, S: s} }
func word(at int, s string) token.Token  { return token.Token{Kind: token.Word, At: at, S: s} }
func number(at int, n int64) token.Token { return token.Token{Kind: token.Number, At: at, N: n} }
func text(at int, s string) token.Token  { return token.Token{Kind: token.Text, At: at, S: s} }
func sign(at int, s string) token.Token  { return token.Token{Kind: token.Sign, At: at, S: s} }

// tokens is a list of them.
func tokens(l ...token.Token) []token.Token { return l }

// quoted is a text's token as it stands in a filter's text.
func quoted(s string) string { return `"` + s + `"` }

// bytesOf is a text of n times one byte.
func bytesOf(c byte, n int) string { return strings.Repeat(string([]byte{c}), n) }

// wantTokens fails if a text isn't cut into just these.
func wantTokens(t *testing.T, s string, want []token.Token) {
	t.Helper()
	if got, err := token.Cut(s); err != nil || !slices.Equal(got, want) {
		t.Errorf("%q is cut into %v, %v, not %v", s, got, err, want)
	}
}

// wantRefused fails if a text isn't refused by an error itself, with no tokens (R3).
func wantRefused(t *testing.T, s string, want api.Code) {
	t.Helper()
	if got, err := token.Cut(s); err != want || len(got) != 0 {
		t.Errorf("%q is cut into %v, %v, not refused by %v", s, got, err, want)
	}
}

// cutCase is a text, and what it is cut into.
type cutCase struct {
	s    string
	want []token.Token
}

// wantAll fails if one of the texts isn't cut as it should be.
func wantAll(t *testing.T, l []cutCase) {
	t.Helper()
	for _, c := range l {
		wantTokens(t, c.s, c.want)
	}
}

// P6.1: the kinds have these numbers.
func TestKinds(t *testing.T) {
	if token.Name != 1 || token.Word != 2 || token.Number != 3 || token.Text != 4 || token.Sign != 5 {
		t.Error("other numbers")
	}
}

// P6.1: whole filters' texts, the document's example first.
func TestCut(t *testing.T) {
	wantAll(t, []cutCase{
		{`a>=-5`, tokens(name(0, "a"), sign(1, ">="), number(3, -5))},
		{`true`, tokens(word(0, "true"))},
		{`a < 5 and (b = "x" or not c in (1))`, tokens(name(0, "a"), sign(2, "<"), number(4, 5), word(6, "and"),
			sign(10, "("), name(11, "b"), sign(13, "="), text(15, "x"), word(19, "or"), word(22, "not"),
			name(26, "c"), word(28, "in"), sign(31, "("), number(32, 1), sign(33, ")"), sign(34, ")"))},
		{`b1^="a b"`, tokens(name(0, "b1"), sign(2, "^="), text(4, "a b"))},
		{`a in("x","y")`, tokens(name(0, "a"), word(2, "in"), sign(4, "("), text(5, "x"), sign(8, ","), text(9, "y"), sign(12, ")"))},
		// No filters, but tokens all the same.
		{`) true <= "" -1`, tokens(sign(0, ")"), word(2, "true"), sign(7, "<="), text(10, ""), number(13, -1))},
	})
}

// P6.1: no text at all, and spaces alone, have no tokens.
func TestNoTokens(t *testing.T) {
	for _, n := range []int{0, 1, 2, 499, 500} {
		if l, err := token.Cut(bytesOf(' ', n)); err != nil || len(l) != 0 {
			t.Error(n, "spaces", l, err)
		}
	}
}

// P6.1: 500 bytes are well, 501 aren't, be they spaces, tokens, or a token at the end alone.
func TestLarge(t *testing.T) {
	for _, s := range []string{bytesOf(' ', 501), bytesOf('(', 501), bytesOf(' ', 500) + "a", "a" + bytesOf(' ', 500), bytesOf(' ', 1<<20)} {
		wantRefused(t, s, api.ErrLarge)
	}
	wantTokens(t, bytesOf(' ', 499)+"a", tokens(name(499, "a")))
	wantTokens(t, "a"+bytesOf(' ', 499), tokens(name(0, "a")))
	wantTokens(t, bytesOf(' ', 498)+"<=", tokens(sign(498, "<=")))
	if l, err := token.Cut(bytesOf('(', 500)); err != nil || len(l) != 500 || l[499] != sign(499, "(") {
		t.Error("500 signs", len(l), err)
	}
}

// P6.1, R1: ErrLarge is named first, so it is told even where bytes are amiss; in 500 bytes that is ErrLex.
func TestLargeAheadOfLex(t *testing.T) {
	for _, c := range []byte{'A', 0, '\t', '!', '"', 255, 'a', '0'} {
		wantRefused(t, bytesOf(c, 501), api.ErrLarge)
	}
	for _, c := range []byte{'A', 0, '\t', '!', 255, 'a', '0'} {
		wantRefused(t, bytesOf(c, 500), api.ErrLex)
	}
	wantRefused(t, bytesOf(' ', 500)+"A", api.ErrLarge)
	wantRefused(t, bytesOf(' ', 499)+"A", api.ErrLex)
}

// P6.1: names begin with a letter, and go on with letters and digits.
func TestNames(t *testing.T) {
	for _, s := range []string{"a", "z", "m", "a0", "z9", "a5z", "ab12cd34", "zz", "e0", "x00"} {
		wantTokens(t, s, tokens(name(0, s)))
	}
	for _, s := range []string{"A", "aB", "Ab", "a_b", "_a", "a.b", "a`", "`a", "a{", "{", "a/", "a:", "é", "aé", "a\x80"} {
		wantRefused(t, s, api.ErrLex)
	}
}

// P6.1: a name of 20 bytes is well, one of 21 isn't cut in two.
func TestLongNames(t *testing.T) {
	for _, s := range []string{bytesOf('a', 20), "a" + bytesOf('9', 19), "abcdefghij0123456789", "z123456789and123456z"} {
		wantTokens(t, s, tokens(name(0, s)))
		wantTokens(t, "("+s+"<"+s, tokens(sign(0, "("), name(1, s), sign(21, "<"), name(22, s)))
		for _, more := range []string{"a", "z", "0", "9", "and", s} {
			wantRefused(t, s+more, api.ErrLex)
		}
		wantTokens(t, s+" a", tokens(name(0, s), name(21, "a")))
	}
	wantRefused(t, bytesOf('a', 500), api.ErrLex)
	wantRefused(t, "and"+bytesOf('a', 18), api.ErrLex)
}

// words are those that are no names.
func words() []string { return []string{"and", "or", "not", "in", "true"} }

// P6.1: each word is of its own kind; what begins with one, ends with one or has one within is a name.
func TestWords(t *testing.T) {
	for _, w := range words() {
		wantTokens(t, w, tokens(word(0, w)))
		wantTokens(t, " "+w+"(", tokens(word(1, w), sign(1+len(w), "(")))
		for _, s := range []string{w + "a", w + "z", w + "0", w + "9", "x" + w, "x" + w + "y", w + w, w[:len(w)-1], w[1:]} {
			wantTokens(t, s, tokens(name(0, s)))
		}
		wantRefused(t, strings.ToUpper(w), api.ErrLex)
	}
	for _, s := range []string{"android", "order", "nothing", "int", "truer", "inn", "false", "xor", "is", "null"} {
		wantTokens(t, s, tokens(name(0, s)))
	}
	wantTokens(t, quoted("and"), tokens(text(0, "and")))
}

// P6.1: numbers, up to the least and the greatest one.
func TestNumbers(t *testing.T) {
	wantAll(t, []cutCase{
		{"0", tokens(number(0, 0))},
		{"1", tokens(number(0, 1))},
		{"-1", tokens(number(0, -1))},
		{"9", tokens(number(0, 9))},
		{"10", tokens(number(0, 10))},
		{"-10", tokens(number(0, -10))},
		{"100200", tokens(number(0, 100200))},
		{"1234567890", tokens(number(0, 1234567890))},
		{"9223372036854775806", tokens(number(0, math.MaxInt64-1))},
		{"9223372036854775807", tokens(number(0, math.MaxInt64))},
		{"-9223372036854775807", tokens(number(0, -math.MaxInt64))},
		{"-9223372036854775808", tokens(number(0, math.MinInt64))},
	})
}

// P6.1: beyond the numbers, with a 0 ahead, -0, and a - alone.
func TestWrongNumbers(t *testing.T) {
	for _, s := range []string{
		"9223372036854775808", "-9223372036854775809", "9223372036854775810", "9300000000000000000", "-9300000000000000000",
		"10000000000000000000", "-10000000000000000000", "18446744073709551615", "18446744073709551616", "18446744073709551617",
		"-18446744073709551615", "36893488147419103233", "99999999999999999999", "1" + bytesOf('0', 499), bytesOf('9', 500),
		"00", "01", "007", "0123", "-00", "-01", "-007", "00000000000000000000", "09223372036854775807", "-0",
		"-", "- 5", "--5", "--", "-a", "-(", `-"5"`, "-=", "5-", "5 -", "1--1", "a-", "(-)", "+5", "1.5", "1_000",
	} {
		wantRefused(t, s, api.ErrLex)
	}
}

// P6.1: S is what stands between the "s, of 0 to 200 bytes.
func TestTexts(t *testing.T) {
	for _, s := range []string{
		"", "x", " ", "  x ", "a b", "and", "5", "-", "(", "^=", "\\", "'", "\\n", "A Z", "a<5 and b=2", "!", "^", "~",
		bytesOf('x', 199), bytesOf('x', 200), bytesOf(' ', 200), bytesOf('~', 200), bytesOf('5', 200),
	} {
		wantTokens(t, quoted(s), tokens(text(0, s)))
		wantTokens(t, "  "+quoted(s)+quoted("y"), tokens(text(2, s), text(4+len(s), "y")))
	}
	for n := 201; n < 210; n++ {
		wantRefused(t, quoted(bytesOf('x', n)), api.ErrLex)
	}
	wantRefused(t, quoted(bytesOf(' ', 498)), api.ErrLex)
	wantRefused(t, quoted(bytesOf('x', 201))+quoted("y"), api.ErrLex)
}

// P6.1: just the bytes from 32 to 126 may stand in a text, wherever in it; a " ends it.
func TestBytesOfTexts(t *testing.T) {
	for c := range 256 {
		if c == '"' {
			continue
		}
		b := bytesOf(byte(c), 1)
		for _, s := range []string{b, b + "xy", "x" + b + "y", "xy" + b, bytesOf('x', 199) + b} {
			if 32 <= c && c <= 126 {
				wantTokens(t, quoted(s), tokens(text(0, s)))
			} else {
				wantRefused(t, quoted(s), api.ErrLex)
			}
		}
	}
	wantRefused(t, quoted("é"), api.ErrLex)
}

// P6.1: a text that never ends, be it short, or too long besides.
func TestTextsThatNeverEnd(t *testing.T) {
	for _, s := range []string{`"`, `"a`, `" `, `""" `, `"a"b"`, `"a" "`, `a="x`, `"a and b = 5`, `x"`, `"` + bytesOf('x', 200), `"` + bytesOf('x', 499)} {
		wantRefused(t, s, api.ErrLex)
	}
}

// signs are all of them.
func signs() []string { return []string{"(", ")", ",", "<", "<=", "=", "!=", ">=", ">", "^="} }

// P6.1: each sign, by itself and between others' tokens.
func TestSigns(t *testing.T) {
	for _, s := range signs() {
		wantTokens(t, s, tokens(sign(0, s)))
		wantTokens(t, "a"+s+"5", tokens(name(0, "a"), sign(1, s), number(1+len(s), 5)))
		wantTokens(t, quoted("x")+s+" -5", tokens(text(0, "x"), sign(3, s), number(4+len(s), -5)))
	}
}

// P6.1: signs are as long as they can be, and end there.
func TestSignsNextToEachOther(t *testing.T) {
	wantAll(t, []cutCase{
		{"==", tokens(sign(0, "="), sign(1, "="))},
		{"<==", tokens(sign(0, "<="), sign(2, "="))},
		{">==", tokens(sign(0, ">="), sign(2, "="))},
		{"!==", tokens(sign(0, "!="), sign(2, "="))},
		{"^==", tokens(sign(0, "^="), sign(2, "="))},
		{"=<=", tokens(sign(0, "="), sign(1, "<="))},
		{"=>=", tokens(sign(0, "="), sign(1, ">="))},
		{"=!=", tokens(sign(0, "="), sign(1, "!="))},
		{"=^=", tokens(sign(0, "="), sign(1, "^="))},
		{"=<", tokens(sign(0, "="), sign(1, "<"))},
		{"=>", tokens(sign(0, "="), sign(1, ">"))},
		{"<>", tokens(sign(0, "<"), sign(1, ">"))},
		{"<<=", tokens(sign(0, "<"), sign(1, "<="))},
		{">>=", tokens(sign(0, ">"), sign(1, ">="))},
		{"<=>", tokens(sign(0, "<="), sign(2, ">"))},
		{">=<=", tokens(sign(0, ">="), sign(2, "<="))},
		{"<!=", tokens(sign(0, "<"), sign(1, "!="))},
		{"()", tokens(sign(0, "("), sign(1, ")"))},
		{"(=", tokens(sign(0, "("), sign(1, "="))},
		{",,)=", tokens(sign(0, ","), sign(1, ","), sign(2, ")"), sign(3, "="))},
		{"< =", tokens(sign(0, "<"), sign(2, "="))},
		{"> =", tokens(sign(0, ">"), sign(2, "="))},
	})
}

// P6.1: an ! or a ^ without its = next to it is no sign.
func TestHalfSigns(t *testing.T) {
	for _, half := range []string{"!", "^"} {
		for _, more := range []string{"", " ", " =", "a", "5", "!", "^", "<=", ">", `"="`, "(", "!=", "^="} {
			wantRefused(t, half+more, api.ErrLex)
			wantRefused(t, "a = 5 "+half+more, api.ErrLex)
		}
		wantRefused(t, "="+half, api.ErrLex)
		wantRefused(t, "<"+half, api.ErrLex)
		wantRefused(t, half+half+"=", api.ErrLex)
	}
}

// P6.1: where no space is needed, none makes a difference, but for a place.
func TestNextToEachOther(t *testing.T) {
	wantAll(t, []cutCase{
		{"5a", tokens(number(0, 5), name(1, "a"))},
		{"5 a", tokens(number(0, 5), name(2, "a"))},
		{"0a", tokens(number(0, 0), name(1, "a"))},
		{"0and", tokens(number(0, 0), word(1, "and"))},
		{"12in3", tokens(number(0, 12), name(2, "in3"))},
		{"12in 3", tokens(number(0, 12), word(2, "in"), number(5, 3))},
		{"a5", tokens(name(0, "a5"))},
		{"a 5", tokens(name(0, "a"), number(2, 5))},
		{"a-5", tokens(name(0, "a"), number(1, -5))},
		{"1-2-3", tokens(number(0, 1), number(1, -2), number(3, -3))},
		{"0-1", tokens(number(0, 0), number(1, -1))},
		{"1 0", tokens(number(0, 1), number(2, 0))},
		{"0 1", tokens(number(0, 0), number(2, 1))},
		{"0 0", tokens(number(0, 0), number(2, 0))},
		{`""""`, tokens(text(0, ""), text(2, ""))},
		{`"a""b"`, tokens(text(0, "a"), text(3, "b"))},
		{`"a"b"c"`, tokens(text(0, "a"), name(3, "b"), text(4, "c"))},
		{`5"5"5`, tokens(number(0, 5), text(1, "5"), number(4, 5))},
		{`a"a"a`, tokens(name(0, "a"), text(1, "a"), name(4, "a"))},
		{`"x"and"y"`, tokens(text(0, "x"), word(3, "and"), text(6, "y"))},
		{"not(a)", tokens(word(0, "not"), sign(3, "("), name(4, "a"), sign(5, ")"))},
		{"a<-5", tokens(name(0, "a"), sign(1, "<"), number(2, -5))},
	})
	for _, s := range []string{"a0-0", "a-0", "0-0", "00a", "1-01", "a0-", `"a"-`} {
		wantRefused(t, s, api.ErrLex)
	}
}

// P6.1: places are bytes', behind spaces wherever they stand.
func TestPlaces(t *testing.T) {
	wantAll(t, []cutCase{
		{" a", tokens(name(1, "a"))},
		{"a ", tokens(name(0, "a"))},
		{"   a   b   ", tokens(name(3, "a"), name(7, "b"))},
		{"  and  ", tokens(word(2, "and"))},
		{"  -7  8", tokens(number(2, -7), number(6, 8))},
		{"  \" x \"  ", tokens(text(2, " x "))},
		{"  <=  =  ", tokens(sign(2, "<="), sign(6, "="))},
	})
	for n := range 500 {
		wantTokens(t, bytesOf(' ', n)+"a"+bytesOf(' ', 499-n), tokens(name(n, "a")))
	}
}

// P6.1: no token begins with any other byte, be it alone, ahead, behind, or in the middle.
func TestBytesThatBeginNothing(t *testing.T) {
	for c := range 256 {
		if strings.IndexByte(` "(),<=>-0123456789abcdefghijklmnopqrstuvwxyz`, byte(c)) >= 0 {
			continue
		}
		b := bytesOf(byte(c), 1)
		for _, s := range []string{b, b + b, " " + b, b + " ", b + "a", "a" + b, "5" + b, "(" + b, quoted("x") + b, "a < 5 " + b + " and b = 2"} {
			wantRefused(t, s, api.ErrLex)
		}
	}
	for _, s := range []string{"a\t<5", "a\n", "\r\n", "a and\nb", "a\u00a0b", "a\u2003b", "\ufeffa", "a\x00", "ａ", "a ≤ 5", "A and B"} {
		wantRefused(t, s, api.ErrLex)
	}
}

// P6.1: one row that is amiss, and all of a text is, though it is well ahead of it and behind.
func TestAmissInTheMiddle(t *testing.T) {
	for _, row := range []string{"A", "01", "-0", "-", "9223372036854775808", bytesOf('a', 21), quoted(bytesOf('x', 201)), quoted("\t"), "!", "^", "é"} {
		for _, s := range []string{row, row + " and b = 5", "a < 5 and " + row, "a < 5 and " + row + " or c = 2", `a = "x" or (` + row + `)`} {
			wantRefused(t, s, api.ErrLex)
		}
	}
}

// rowAtFront is the row that a text begins with, be it well or amiss.
var rowAtFront = regexp.MustCompile(`^(?:[a-z][a-z0-9]*|-?[0-9]+|"[^"]*"|[<!>^]=|[(),<=>])`)

// well is what a row must be besides, but for a number's size.
var well = regexp.MustCompile(`^(?:[a-z][a-z0-9]{0,19}|0|-?[1-9][0-9]*|"[ -~]{0,200}"|[^a-z0-9" -]+)$`)

// slowCut cuts by patterns, with numbers of any size; false, if it can't be done.
func slowCut(s string) ([]token.Token, bool) {
	var l []token.Token
	for at := 0; at < len(s); {
		if s[at] == ' ' {
			at++
			continue
		}
		row := rowAtFront.FindString(s[at:])
		if row == "" || !well.MatchString(row) {
			return nil, false
		}
		t, ok := slowToken(at, row)
		if !ok {
			return nil, false
		}
		l = append(l, t)
		at += len(row)
	}
	return l, true
}

// slowToken is the token of a row that is well but for a number's size.
func slowToken(at int, row string) (token.Token, bool) {
	if slices.Contains(words(), row) {
		return word(at, row), true
	}
	if slices.Contains(signs(), row) {
		return sign(at, row), true
	}
	if row[0] == '"' {
		return text(at, row[1:len(row)-1]), true
	}
	if n, ok := new(big.Int).SetString(row, 10); ok {
		return number(at, n.Int64()), n.IsInt64()
	}
	return name(at, row), true
}

// wantSlow ends a test if a text isn't cut as the slow way cuts it, and tells whether it is well.
func wantSlow(t *testing.T, s string) bool {
	t.Helper()
	want, ok := slowCut(s)
	if len(s) > api.MaxFilter {
		wantRefused(t, s, api.ErrLarge)
	} else if !ok {
		wantRefused(t, s, api.ErrLex)
	} else {
		wantTokens(t, s, want)
	}
	if t.Failed() {
		t.FailNow()
	}
	return ok && len(s) <= api.MaxFilter
}

// every calls f with a text, and with all that up to n more bytes of an alphabet make of it.
func every(s, alphabet string, n int, f func(s string)) {
	f(s)
	if n == 0 {
		return
	}
	for i := range len(alphabet) {
		every(s+alphabet[i:i+1], alphabet, n-1, f)
	}
}

// P6.1: every short text of bytes of each sort.
func TestEveryShortText(t *testing.T) {
	for _, c := range []struct {
		alphabet string
		n        int
	}{
		{"az09-\" <=>!^(,A\t~\x7f", 4},
		{"a0-1\" <=!", 5},
		{"inot", 6},
		{"-01 ", 7},
		{"<>=!^ ", 6},
		{"\"x\x1f ", 7},
	} {
		every("", c.alphabet, c.n, func(s string) { wantSlow(t, s) })
	}
	for a := range 256 {
		for b := range 256 {
			wantSlow(t, string([]byte{byte(a), byte(b)}))
		}
	}
}

// pieces are what random texts are made of: tokens, bytes that are amiss seldom.
func pieces() []string {
	l := slices.Concat(words(), signs(), []string{
		"a", "b1", "android", bytesOf('q', 19), "0", "7", "-1", "12", "9223372036854775807", "-9223372036854775808",
		`""`, `"x y"`, quoted(bytesOf('x', 100)), " ", " ", "  ", " ",
	})
	l = slices.Concat(l, l, l, l)
	return append(l, "0", "-", "!", "^", "A", "\t", "\xff", `"`, bytesOf('q', 21), "00", "\"\x7f\"", "9223372036854775808")
}

// P6.1: random texts, short and long, most of them well.
func TestRandomTexts(t *testing.T) {
	rnd := rand.New(rand.NewSource(6))
	l := pieces()
	cut := 0
	for range 20000 {
		var b strings.Builder
		for range rnd.Intn(25) {
			b.WriteString(l[rnd.Intn(len(l))])
		}
		if wantSlow(t, b.String()) {
			cut++
		}
	}
	if cut < 3000 || cut > 17000 {
		t.Error("well are", cut, "of 20000")
	}
}

// written is a token's own bytes in the text that it was cut from, up to the next token, without spaces behind it.
func written(s string, l []token.Token, i int) string {
	end := len(s)
	if i+1 < len(l) {
		end = l[i+1].At
	}
	return strings.TrimRight(s[l[i].At:end], " ")
}

// wellTexts are texts that have tokens of all kinds, next to each other and not.
func wellTexts() []string {
	l := []string{`a>=-5`, ` a < 5 and (b = "x" or not c in (1))`, `5a"" <= =!=^=0-1`, `"a""b"and-7 8 `, ` " x "  true,in`}
	rnd := rand.New(rand.NewSource(61))
	all := pieces()
	for len(l) < 500 {
		var b strings.Builder
		for range 1 + rnd.Intn(12) {
			b.WriteString(all[rnd.Intn(len(all))])
		}
		if _, err := token.Cut(b.String()); err == nil {
			l = append(l, b.String())
		}
	}
	return l
}

// cutWell is what a text is cut into that is well.
func cutWell(t *testing.T, s string) []token.Token {
	t.Helper()
	l, err := token.Cut(s)
	if err != nil {
		t.Fatalf("%q: %v", s, err)
	}
	return l
}

// P6.2: tokens rise by their places, and lie within the text.
func TestTokensRise(t *testing.T) {
	for _, s := range wellTexts() {
		last := -1
		for _, k := range cutWell(t, s) {
			if k.At <= last || k.At >= len(s) {
				t.Fatalf("%q: %v behind %d", s, k, last)
			}
			last = k.At
		}
	}
}

// P6.2: cut out, each is itself, but that it begins at 0.
func TestCutOutEachIsItself(t *testing.T) {
	for _, s := range wellTexts() {
		l := cutWell(t, s)
		for i, k := range l {
			k.At = 0
			wantTokens(t, written(s, l, i), tokens(k))
		}
	}
}

// P6.2: between the tokens there are spaces alone: with one space between, they are the same ones.
func TestWithSpacesBetween(t *testing.T) {
	for _, s := range wellTexts() {
		l := cutWell(t, s)
		var b strings.Builder
		var want []token.Token
		for i, k := range l {
			k.At = b.Len()
			want = append(want, k)
			b.WriteString(written(s, l, i) + " ")
		}
		if b.Len() <= api.MaxFilter {
			wantTokens(t, b.String(), want)
		}
	}
}

// P6.1: S is empty of a number, N is 0 of all others.
func TestFieldsThatKindsDontHave(t *testing.T) {
	for _, s := range wellTexts() {
		for _, k := range cutWell(t, s) {
			if k.Kind == token.Number && k.S != "" || k.Kind != token.Number && k.N != 0 {
				t.Fatalf("%q: %v", s, k)
			}
		}
	}
}

// R2: a list is new each time, and no S lies in the text that was handed in.
func TestTokensAreNew(t *testing.T) {
	s := strings.Clone(` a < 5 and (b = "x y" or not c in (1))`)
	first := cutWell(t, s)
	second := cutWell(t, s)
	want := slices.Clone(second)
	clear(first)
	if !slices.Equal(second, want) || !slices.Equal(cutWell(t, s), want) {
		t.Error("changed to", second)
	}
	from := uintptr(unsafe.Pointer(unsafe.StringData(s)))
	for _, k := range second {
		if at := uintptr(unsafe.Pointer(unsafe.StringData(k.S))); k.S != "" && from <= at && at < from+uintptr(len(s)) {
			t.Error("a piece of the text:", k)
		}
	}
}

// P1: any bytes at all are cut or refused, and the same way each time.
func FuzzCut(f *testing.F) {
	for _, s := range []string{"", "a>=-5", `"x`, "\xff", "é", "-", "!=", bytesOf(' ', 501)} {
		f.Add(s)
	}
	f.Fuzz(func(t *testing.T, s string) { wantSlow(t, s) })
}
