package check_test

import (
	"math"
	"math/rand"
	"slices"
	"strconv"
	"strings"
	"testing"
	"unsafe"

	"plover/api"
	"plover/check"
)

// wantNames fails if a filter's names aren't just these.
func wantNames(t *testing.T, f api.Filter, want ...string) {
	t.Helper()
	if l := check.Names(f); !slices.Equal(l, want) {
		t.Errorf("the names of %v are %q, not %q", f, l, want)
	}
}

// P8.2: names of filters that may be: rising, each once.
func TestNames(t *testing.T) {
	for s, want := range map[string][]string{
		"true":                                   nil,
		"not not true":                           nil,
		"true and (true or not true)":            nil,
		"a = 1":                                  {"a"},
		`a ^= "b"`:                               {"a"},
		`a in ("c", "b")`:                        {"a"},
		"not not not a = 1":                      {"a"},
		"a = 1 and a = 2 and a = 1":              {"a"},
		"a = 1 or b = 1":                         {"a", "b"},
		"b = 1 or a = 1":                         {"a", "b"},
		"c = 1 and a = 1 and b = 1":              {"a", "b", "c"},
		"c = 1 or a = 1 and not (b = 1 or true)": {"a", "b", "c"},
		`b = "x" or not (a = 1 and b = "y")`:     {"a", "b"},
		"b = 1 and (a = 1 or (c in (1) and (a = 2 or not b = 3)))": {"a", "b", "c"},
		"z9 = 1 or z10 = 1 or z = 1 or a9 = 1 or ab = 1 or aa = 1": {"a9", "aa", "ab", "z", "z10", "z9"},
	} {
		wantNames(t, read(t, s), want...)
	}
}

// P8.2: names of filters that may not be: in fields that must be empty, whatever the kinds and the names.
func TestNamesOfAnyFilter(t *testing.T) {
	wantNames(t, api.Filter{})
	for _, kind := range []int{0, 1, 2, 3, 4, 5, 6, 7, 8, -1, 255, 1 << 32, math.MaxInt, math.MinInt} {
		for _, name := range []string{"a", "A", " ", "and", "5", "é", "\x00", "\xff", `"`, "a b", bytesOf('a', 21), bytesOf('a', 501), bytesOf('b', 1<<20)} {
			f := api.Filter{Kind: kind, Name: name}
			wantNames(t, f, name)
			wantNames(t, api.Filter{Kind: kind, L: []api.Filter{f}}, name)
			wantNames(t, api.Filter{Kind: kind, Name: name, L: []api.Filter{f, {}, f}}, name)
			wantNames(t, api.Filter{Kind: kind, Name: name, L: []api.Filter{{Kind: kind, Name: "c"}}}, slices.Sorted(slices.Values([]string{"c", name}))...)
			wantNames(t, api.Filter{Kind: kind, Name: "c", L: []api.Filter{{L: []api.Filter{{}, f}}, {Kind: kind}}}, slices.Sorted(slices.Values([]string{"c", name}))...)
		}
	}
	for _, f := range mayNot() {
		wantNames(t, f, slowNames(f)...)
		for _, whole := range holders(f) {
			wantNames(t, whole, slowNames(whole)...)
		}
	}
}

// P8.2: what isn't a filter's Name is none: an Op, and values' names and texts.
func TestWhatIsNoName(t *testing.T) {
	vals := []api.Attr{{Name: "b"}, {Name: "c", Text: true, S: "d"}, text("e"), {S: "f"}}
	for kind := -1; kind < 10; kind++ {
		wantNames(t, api.Filter{Kind: kind, Op: "o", Vals: vals})
		wantNames(t, api.Filter{Kind: kind, Name: "a", Op: "o", Vals: vals, L: []api.Filter{{Kind: kind, Op: "p", Vals: vals}}}, "a")
	}
}

// P8.2: names rise by their bytes.
func TestNamesRise(t *testing.T) {
	want := []string{"\x00", "\x00\x00", " ", "\"", "-1", "10", "2", "A", "Z", "_", "a", "a\x00", "a ", "a0", "aA", "aa", "b", "z", "{", "é", "ü", "\xff", "\xff\xff"}
	rnd := rand.New(rand.NewSource(83))
	for range 100 {
		var l []api.Filter
		for _, i := range rnd.Perm(2 * len(want)) {
			l = append(l, api.Filter{Kind: api.FCmp, Name: want[i/2]})
		}
		wantNames(t, and(l...), want...)
		wantNames(t, and(or(l[:7]...), or(append(l[7:20:20], not(or(l[20:]...)))...)), want...)
	}
}

// anyFilter is a filter of any fields, that hardly may be.
func anyFilter(rnd *rand.Rand, deep int) api.Filter {
	f := api.Filter{Kind: rnd.Intn(11) - 1, Op: []string{"", "=", "a"}[rnd.Intn(3)], Vals: []api.Attr{{Name: "v"}, text("w")}[:rnd.Intn(3)]}
	if rnd.Intn(3) > 0 {
		f.Name = strconv.Itoa(rnd.Intn(1 << rnd.Intn(12)))
	}
	if deep > 0 {
		for range rnd.Intn(6) {
			f.L = append(f.L, anyFilter(rnd, deep-1))
		}
	}
	return f
}

// P8.2: random filters of any fields.
func TestRandomNames(t *testing.T) {
	rnd := rand.New(rand.NewSource(84))
	most := 0
	for range 3000 {
		f := anyFilter(rnd, rnd.Intn(7))
		want := slowNames(f)
		wantNames(t, f, want...)
		most = max(most, len(want))
		if t.Failed() {
			t.FailNow()
		}
	}
	if most < 200 {
		t.Error("just", most, "names")
	}
}

// distinct are n names, rising.
func distinct(n int) []string {
	var l []string
	for i := range n {
		l = append(l, strconv.Itoa(1<<30+i))
	}
	return l
}

// wantManyNames fails if a great filter's names aren't just these, and tells no filter.
func wantManyNames(t *testing.T, f api.Filter, want []string) {
	t.Helper()
	if l := check.Names(f); !slices.Equal(l, want) {
		t.Error(len(l), "names, not these", len(want))
	}
}

// P1, P8.2: a filter may be deep, or wide, or have the same name often, at every level.
func TestNamesOfGreatFilters(t *testing.T) {
	names := distinct(1 << 16)
	var ahead, behind, wide, one, both api.Filter
	for i, name := range names {
		ahead = api.Filter{Name: name, L: []api.Filter{ahead}}
		behind = api.Filter{Name: names[len(names)-1-i], L: []api.Filter{behind}}
		wide.L = append(wide.L, api.Filter{Kind: i, Name: name})
		one = api.Filter{Name: "a", L: []api.Filter{one}}
		both = api.Filter{L: []api.Filter{{Name: name}, both, {Name: "a"}}}
	}
	wantManyNames(t, ahead, names)
	wantManyNames(t, behind, names)
	wantManyNames(t, wide, names)
	wantManyNames(t, one, []string{"a"})
	names = append(names, "a")
	wantManyNames(t, both, names)
	wantManyNames(t, and(ahead, wide, one, behind, both), names)
	wantManyNames(t, and(times(1<<20, pre("z", "x"))...), []string{"z"})
	doubled := or(pre("y", "x"), pre("z", "x"))
	for range 16 {
		doubled = and(doubled, doubled)
	}
	wantManyNames(t, doubled, []string{"y", "z"})
}

// P8.2, R2: names are new memory, and so is each list of them.
func TestNamesAreNewMemory(t *testing.T) {
	whole := strings.Clone("abcdefgh")
	f := and(pre(whole[:3], "x"), not(compare(whole[3:5], "=", number(1))), api.Filter{Name: whole})
	want := []string{"abc", "abcdefgh", "de"}
	l := check.Names(f)
	from := uintptr(unsafe.Pointer(unsafe.StringData(whole)))
	for _, name := range l {
		if at := uintptr(unsafe.Pointer(unsafe.StringData(name))); from <= at && at < from+uintptr(len(whole)) {
			t.Errorf("%q is a piece of the filter", name)
		}
	}
	other := check.Names(f)
	l[0], l[2] = "x", "y"
	if !slices.Equal(other, want) {
		t.Error("two answers share a list:", other)
	}
	wantNames(t, f, want...)
}
