package check_test

import (
	"fmt"
	"math"
	"math/rand"
	"regexp"
	"slices"
	"strconv"
	"testing"

	"plover/api"
	"plover/check"
)

// named is a value with a name.
func named(name string, v api.Attr) api.Attr {
	v.Name = name
	return v
}

// wantFits fails if one of the lists isn't answered just so.
func wantFits(t *testing.T, s check.Schema, want error, ll ...[]api.Attr) {
	t.Helper()
	for _, l := range ll {
		if err := check.Fits(s, l); err != want {
			t.Errorf("by %v %v is %v, not %v", s, l, err, want)
		}
	}
}

// attrs is a list of attributes.
func attrs(l ...api.Attr) []api.Attr { return l }

// Attributes that are well by plain, each of another name.

func aWell() api.Attr { return named("a", number(5)) }
func bWell() api.Attr { return named("b", text("x")) }
func mWell() api.Attr { return named("m", number(-5)) }
func nWell() api.Attr { return named("n", text("")) }

// P8.2: attributes that fit: in any order, and not all of the names.
func TestFits(t *testing.T) {
	a, b, m, n := aWell(), bWell(), mWell(), nWell()
	wantFits(t, plain(), nil, nil, attrs(), attrs(a), attrs(b), attrs(m), attrs(n), attrs(a, b), attrs(b, a), attrs(n, m, b, a), attrs(m, a, n, b), attrs(a, b, m, n))
	wantFits(t, plain(), nil, attrs(named("a", number(0))), attrs(named("a", number(math.MaxInt64))), attrs(named("m", number(math.MinInt64)), named("b", text(" ~"))))
	wantFits(t, plain(), api.ErrTwice, attrs(a, a), attrs(a, b, a), attrs(b, b), attrs(a, named("a", number(6))), attrs(a, named("a", text("x"))))
	wantFits(t, plain(), api.ErrNone, attrs(named("z", number(1))), attrs(a, named("z", number(1))), attrs(named("z", text("x")), a), attrs(named("A", number(1))), attrs(api.Attr{}), attrs(number(1)), attrs(text("x"), a))
	wantFits(t, plain(), api.ErrType, attrs(named("a", text("x"))), attrs(named("b", number(1))), attrs(named("a", text(""))), attrs(named("b", number(0))), attrs(a, named("n", number(5))), attrs(named("m", text("5")), b))
	wantFits(t, plain(), api.ErrArg, attrs(api.Attr{Name: "a", S: "x"}), attrs(api.Attr{Name: "b", Text: true, N: 1}), attrs(named("b", text(`"`))), attrs(a, named("b", text("é"))))
}

// P8.2: each name that isn't there, and strings that are no names.
func TestFitsOfNamesThatAreNotThere(t *testing.T) {
	for _, name := range slices.Concat(notThere(), []string{"", " ", "a ", " a", "A", "B", "and", "5", "a\x00", "é", "a,b", bytesOf('a', 21), bytesOf('a', 501), bytesOf('a', 1<<20)}) {
		for _, v := range attrs(number(0), number(5), text(""), text("x")) {
			x := named(name, v)
			wantFits(t, plain(), api.ErrNone, attrs(x), attrs(aWell(), x), attrs(x, bWell()), attrs(aWell(), x, bWell()))
			wantFits(t, check.Schema{}, api.ErrNone, attrs(x), attrs(aWell(), x), attrs(x, aWell()))
			wantFits(t, plain(), api.ErrTwice, attrs(x, x), attrs(x, aWell(), x), attrs(aWell(), x, named(name, number(7))))
		}
	}
	wantFits(t, check.Schema{}, nil, nil, attrs())
}

// letters is so many attributes that fit the schema of letters: a to z, numbers.
func letters(n int) []api.Attr {
	var l []api.Attr
	for i := range n {
		l = append(l, named(string([]byte{byte('a' + i)}), number(int64(i))))
	}
	return l
}

// lettersSchema is one of the letters.
func lettersSchema() check.Schema {
	var s check.Schema
	for _, a := range letters(26) {
		s.Names = append(s.Names, a.Name)
		s.Text = append(s.Text, false)
	}
	return s
}

// P8.2: 16 attributes are well, 17 are too many, ahead of all that else is amiss with them.
func TestHowMany(t *testing.T) {
	for n := range 27 {
		var want error
		if n > 16 {
			want = api.ErrLarge
		}
		l := letters(n)
		wantFits(t, lettersSchema(), want, l)
		if n < 2 {
			continue
		}
		for i, c := range []struct {
			change api.Attr
			want   error
		}{{l[0], api.ErrTwice}, {named("zz", number(1)), api.ErrNone}, {named(l[n-1].Name, text("x")), api.ErrType}, {api.Attr{Name: l[n-1].Name, S: "x"}, api.ErrArg}} {
			changed := append(slices.Clone(l[:n-1]), c.change)
			if n > 16 {
				c.want = api.ErrLarge
			}
			wantFits(t, lettersSchema(), c.want, changed)
			slices.Reverse(changed)
			wantFits(t, lettersSchema(), c.want, changed)
			if t.Failed() {
				t.Fatal(n, i)
			}
		}
	}
	wantFits(t, check.Schema{}, api.ErrLarge, make([]api.Attr, 17), make([]api.Attr, 1<<20))
	wantFits(t, check.Schema{}, api.ErrTwice, make([]api.Attr, 16), make([]api.Attr, 2))
	wantFits(t, check.Schema{}, api.ErrNone, make([]api.Attr, 1), letters(16))
}

// P8.2: a name twice, at each two places, though it isn't there, has another type, or a text that may not be.
func TestTwice(t *testing.T) {
	for n := 2; n <= 16; n++ {
		for i := range n {
			for j := range i {
				for _, name := range []string{letters(n)[i].Name, "z", "zz", ""} {
					for _, v := range attrs(number(1), text("x"), text(`"`), api.Attr{S: "x"}) {
						l := letters(n)
						l[i], l[j] = named(name, v), named(name, number(2))
						wantFits(t, lettersSchema(), api.ErrTwice, l)
						wantFits(t, check.Schema{}, api.ErrTwice, l)
					}
				}
			}
		}
	}
	// Others are ahead of them, and about them.
	none, ill, amiss := named("z", number(1)), named("m", text("x")), named("n", text("\n"))
	wantFits(t, plain(), api.ErrTwice, attrs(none, ill, amiss, aWell(), aWell()), attrs(aWell(), none, ill, amiss, aWell()), attrs(aWell(), aWell(), none, ill, amiss), attrs(none, ill, none, amiss), attrs(ill, ill, none), attrs(amiss, none, amiss))
}

// P8.2: each error ahead of those that are named behind it, in whatever order the attributes stand.
func TestErrorsInTheirOrder(t *testing.T) {
	l := []struct {
		attr api.Attr
		want error
	}{{named("z", number(1)), api.ErrNone}, {named("a", text("x")), api.ErrType}, {named("b", text(bytesOf('x', 201))), api.ErrArg}, {mWell(), nil}}
	for set := range 1 << len(l) {
		var chosen []api.Attr
		var want error
		for i, c := range l {
			if set>>i&1 == 1 {
				chosen = append(chosen, c.attr)
				if want == nil {
					want = c.want
				}
			}
		}
		orders(chosen, 0, func() { wantFits(t, plain(), want, chosen) })
	}
	// One attribute of which two things are amiss.
	wantFits(t, plain(), api.ErrNone, attrs(named("z", text(`"`))), attrs(api.Attr{Name: "z", S: "x"}), attrs(api.Attr{Name: "z", Text: true, N: 1}))
	wantFits(t, plain(), api.ErrType, attrs(named("a", text(`"`))), attrs(api.Attr{Name: "b", S: "x"}), attrs(api.Attr{Name: "a", Text: true, N: 1}), attrs(named("a", text(bytesOf('x', 201)))), attrs(api.Attr{Name: "b", N: 1, S: "\n"}))
}

// orders calls f with each order of a list from a place on.
func orders(l []api.Attr, from int, f func()) {
	if from >= len(l) {
		f()
		return
	}
	for i := from; i < len(l); i++ {
		l[from], l[i] = l[i], l[from]
		orders(l, from+1, f)
		l[from], l[i] = l[i], l[from]
	}
}

// P8.2: texts that may be a filter's, by their bytes, and by how many they are.
func TestTextsOfAttributes(t *testing.T) {
	wantText := func(want error, s string) {
		t.Helper()
		b, n := named("b", text(s)), named("n", text(s))
		wantFits(t, plain(), want, attrs(b), attrs(n), attrs(b, n), attrs(aWell(), b), attrs(n, bWell(), mWell()))
		wantFits(t, plain(), api.ErrType, attrs(named("a", text(s))), attrs(b, named("m", text(s))))
		wantFits(t, plain(), api.ErrArg, attrs(named("b", api.Attr{Text: true, N: 1, S: s})), attrs(named("n", api.Attr{Text: true, N: -1, S: s}), bWell()))
	}
	for _, s := range []string{"", " ", "x", "and", "a = 1", "5", "(", bytesOf('x', 199), bytesOf('x', 200), bytesOf(' ', 200), bytesOf('~', 200)} {
		wantText(nil, s)
	}
	for _, s := range []string{`"`, `x"y`, "\n", "x\x00", "é", "\xff", bytesOf('x', 201), bytesOf('x', 500), bytesOf('x', 501), bytesOf('x', 1<<20), bytesOf('x', 200) + `"`, bytesOf('x', 199) + `"`} {
		wantText(api.ErrArg, s)
	}
	for c := range 256 {
		var want error
		if c < 32 || c > 126 || c == '"' {
			want = api.ErrArg
		}
		b := bytesOf(byte(c), 1)
		for _, s := range []string{b, "x" + b, b + "x", "x" + b + "x", bytesOf('x', 199) + b, b + bytesOf('x', 199)} {
			wantText(want, s)
		}
	}
}

// P8.2: a number with a text, and a text with a number.
func TestFieldsOfAttributes(t *testing.T) {
	for _, n := range []int64{0, 1, -1, math.MaxInt64, math.MinInt64} {
		wantFits(t, plain(), nil, attrs(named("a", number(n))), attrs(bWell(), named("a", number(n))))
		for _, s := range []string{"x", " ", "5", `"`, bytesOf('x', 201)} {
			x := api.Attr{Name: "a", N: n, S: s}
			wantFits(t, plain(), api.ErrArg, attrs(x), attrs(x, bWell()), attrs(mWell(), x))
		}
		for _, s := range []string{"", "x", "5"} {
			x := api.Attr{Name: "b", Text: true, N: n, S: s}
			if n == 0 {
				wantFits(t, plain(), nil, attrs(x))
			} else {
				wantFits(t, plain(), api.ErrArg, attrs(x), attrs(x, aWell()), attrs(nWell(), x))
			}
		}
	}
}

// P8.2: a schema that may not be is told ahead of all else.
func TestFitsOfSchemasThatMayNot(t *testing.T) {
	for _, s := range schemasThatMayNot() {
		wantFits(t, s, api.ErrArg, nil, attrs(), attrs(aWell()), attrs(aWell(), aWell()), attrs(named("z", number(1))), attrs(named("a", text("x"))), attrs(api.Attr{Name: "a", S: "x"}), make([]api.Attr, 17), letters(17), letters(26))
	}
}

// slowName is a name's form, in this file's own way.
var slowName = regexp.MustCompile(`^[a-z][a-z0-9]{0,19}$`)

// slowSchema tells whether a schema may be, in this file's own way.
func slowSchema(s check.Schema) bool {
	sorted := slices.Sorted(slices.Values(s.Names))
	if len(s.Names) != len(s.Text) || !slices.Equal(sorted, s.Names) || len(slices.Compact(sorted)) < len(s.Names) {
		return false
	}
	return !slices.ContainsFunc(s.Names, func(name string) bool {
		return !slowName.MatchString(name) || slices.Contains([]string{"and", "or", "not", "in", "true"}, name)
	})
}

// slowText is a text's form, in this file's own way.
var slowText = regexp.MustCompile(`^[ !#-~]{0,200}$`)

// slowFits is Fits's answer, in this file's own way.
func slowFits(s check.Schema, l []api.Attr) error {
	if !slowSchema(s) {
		return api.ErrArg
	}
	if len(l) > 16 {
		return api.ErrLarge
	}
	counts, none, ill, amiss := map[string]int{}, false, false, false
	for _, a := range l {
		counts[a.Name]++
		if counts[a.Name] == 2 {
			return api.ErrTwice
		}
		kind := slowType(s, a.Name)
		none = none || kind < 0
		ill = ill || (kind == 1) != a.Text
		amiss = amiss || !a.Text && a.S != "" || a.Text && (a.N != 0 || !slowText.MatchString(a.S))
	}
	switch {
	case none:
		return api.ErrNone
	case ill:
		return api.ErrType
	case amiss:
		return api.ErrArg
	}
	return nil
}

// randomSchema is one that may be, or nearly so.
func randomSchema(rnd *rand.Rand) check.Schema {
	var s check.Schema
	for i := range 40 {
		if rnd.Intn(2) == 0 {
			s.Names = append(s.Names, "n"+strconv.Itoa(10+i))
			s.Text = append(s.Text, i%2 == 1)
		}
	}
	if rnd.Intn(8) > 0 || len(s.Names) == 0 {
		return s
	}
	i, j := rnd.Intn(len(s.Names)), rnd.Intn(len(s.Names))
	switch rnd.Intn(5) {
	case 0:
		s.Names[i], s.Names[j] = s.Names[j], s.Names[i]
	case 1:
		s.Names[i] = s.Names[j]
	case 2:
		s.Names[i] += []string{"0", " ", "A", "\x00", bytesOf('0', 18)}[rnd.Intn(5)]
	case 3:
		s.Text = s.Text[:i]
	case 4:
		s.Names = s.Names[:j]
	}
	return s
}

// randomAttrs are attributes, few of which are amiss.
func randomAttrs(rnd *rand.Rand, s check.Schema) []api.Attr {
	var l []api.Attr
	few := 1 + rnd.Intn(5)
	for i := range s.Names {
		if rnd.Intn(few) > 0 {
			continue
		}
		a := named(s.Names[i], number(int64(rnd.Intn(9))))
		if i < len(s.Text) && s.Text[i] != (rnd.Intn(40) == 0) {
			a = named(s.Names[i], text(bytesOf('x', rnd.Intn(9))))
		}
		switch rnd.Intn(160) {
		case 0:
			a.Name += "0"
		case 1:
			a.N++
		case 2:
			a.S += []string{"x", `"`, bytesOf('x', 200)}[rnd.Intn(3)]
		case 3:
			a.Name = s.Names[rnd.Intn(len(s.Names))]
		}
		l = append(l, a)
	}
	if rnd.Intn(20) == 0 {
		l = append(l, l...)
	}
	rnd.Shuffle(len(l), func(i, j int) { l[i], l[j] = l[j], l[i] })
	return l
}

// P8.1, P8.2: random schemas, and random attributes.
func TestRandomAttributes(t *testing.T) {
	rnd := rand.New(rand.NewSource(82))
	counts := map[string]int{}
	for range 60000 {
		s := randomSchema(rnd)
		l := randomAttrs(rnd, s)
		want := slowFits(s, l)
		wantFits(t, s, want, l)
		if slowSchema(s) {
			wantCheck(t, s, nil, always())
		} else {
			wantCheck(t, s, api.ErrArg, always())
		}
		counts[fmt.Sprint(slowSchema(s), want)]++
		if t.Failed() {
			t.FailNow()
		}
	}
	for _, want := range []error{nil, api.ErrLarge, api.ErrTwice, api.ErrNone, api.ErrType, api.ErrArg} {
		if n := counts[fmt.Sprint(true, want)]; n < 500 {
			t.Error("just", n, "lists of", want)
		}
	}
	if n := counts[fmt.Sprint(false, api.ErrArg)]; n < 500 {
		t.Error("just", n, "schemas that may not be")
	}
}
