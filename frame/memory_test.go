package frame_test

import (
	"slices"
	"strings"
	"testing"

	"plover/api"
	"plover/frame"
)

// spoil changes all bytes that a slice has, and could grow to.
func spoil(b []byte) {
	b = b[:cap(b)]
	for i := range b {
		b[i] = ^b[i]
	}
}

// roomy is bytes in memory that has more behind them, of another sort.
func roomy(s string, room int) []byte {
	b := append(make([]byte, 0, len(s)+room), s...)
	for i := range room {
		b[:cap(b)][len(s)+i] = byte(7*i + 1)
	}
	return b
}

// wantRoomy fails if bytes, or those behind them, were changed.
func wantRoomy(t *testing.T, b []byte, s string, room int) {
	t.Helper()
	if string(b[:cap(b)]) != string(roomy(s, room)[:len(s)+room]) {
		t.Fatalf("changed: %s", show([]string{s}))
	}
}

// P11.3, R2: Put changes nothing that it gets, and keeps none of it.
func TestPutMemory(t *testing.T) {
	for _, n := range sizes() {
		for _, room := range []int{0, 1, 2, 5000} {
			s := body(n)
			given := roomy(s, room)
			first, err := frame.Put(given)
			wantRoomy(t, given, s, room)
			second, again := frame.Put(given)
			if err != nil || again != nil {
				t.Fatal(err, again)
			}
			spoil(given)
			if string(first) != framed(s) || string(second) != framed(s) {
				t.Error(n, room, "what was told shares memory with what was given")
			}
			given = roomy(s, room)
			third, _ := frame.Put(given)
			spoil(first)
			spoil(third)
			wantRoomy(t, given, s, room)
			if string(second) != framed(s) {
				t.Error(n, room, "two that were told share memory")
			}
		}
	}
	given := roomy(body(4001), 10)
	if _, err := frame.Put(given); err != api.ErrLarge {
		t.Error(err)
	}
	wantRoomy(t, given, body(4001), 10)
}

// streams are some whose frames are small, one with great ones, and ones with the same one many times.
func streams() []string {
	great := framed("a") + framed(body(300)) + framed("") + framed(body(4000)) + framed("bc") + "\x0f\xa0" + body(20)
	return append(short(), great, strings.Repeat(framed("a"), 40), strings.Repeat(framed("")+framed(body(300)), 5), strings.Repeat(great, 3))
}

// steps are lengths of pieces.
func steps(s string) []int { return []int{1, 2, 3, 4, 5, 7, 10, 100, max(len(s), 1)} }

// feedAll feeds a stream in pieces of that length, does something to each piece and what was told behind each call, and answers what was told, as it was then.
func feedAll(s string, step int, behind func(piece []byte, told [][]byte)) []string {
	r := frame.New()
	var l []string
	for from := 0; from < len(s); from += step {
		piece := roomy(s[from:min(from+step, len(s))], 9)
		told, _ := r.Feed(piece)
		l = append(l, texts(told)...)
		behind(piece, told)
	}
	return l
}

// P11.3: pieces aren't changed, nor is what stands behind them.
func TestPiecesStay(t *testing.T) {
	for _, s := range streams() {
		for _, step := range steps(s) {
			from := 0
			feedAll(s, step, func(piece []byte, told [][]byte) {
				wantRoomy(t, piece, s[from:min(from+step, len(s))], 9)
				from += step
				// Nor does it change them that what is told is changed.
				now := string(piece[:cap(piece)])
				for _, b := range told {
					spoil(b)
				}
				if string(piece[:cap(piece)]) != now {
					t.Fatal(step, "a piece shares memory with what was told")
				}
			})
		}
	}
}

// P11.3: pieces that are changed behind the call change nothing that is told later, or was told.
func TestPiecesChange(t *testing.T) {
	for _, s := range streams() {
		want, _ := slowRead(s)
		for _, step := range steps(s) {
			var all [][]byte
			got := feedAll(s, step, func(piece []byte, told [][]byte) {
				all = append(all, told...)
				spoil(piece)
			})
			if !slices.Equal(got, want) || !slices.Equal(texts(all), want) {
				t.Fatal(step, show(got), show(texts(all)), show(want))
			}
		}
	}
}

// P11.3: pieces that are all of the same memory.
func TestOneBuffer(t *testing.T) {
	for _, s := range streams() {
		want, _ := slowRead(s)
		for _, step := range steps(s) {
			r := frame.New()
			buffer := make([]byte, step)
			var all [][]byte
			for from := 0; from < len(s); from += step {
				told, _ := r.Feed(buffer[:copy(buffer, s[from:])])
				all = append(all, told...)
			}
			if !slices.Equal(texts(all), want) {
				t.Fatal(step, show(texts(all)), show(want))
			}
		}
	}
}

// P11.3: what was told, if it is changed, and the list of it too, changes nothing that is told later.
func TestToldChanges(t *testing.T) {
	for _, s := range streams() {
		want, _ := slowRead(s)
		for _, step := range steps(s) {
			got := feedAll(s, step, func(_ []byte, told [][]byte) {
				for _, b := range told {
					spoil(b)
				}
				told = told[:cap(told)]
				for i := range told {
					told[i] = []byte("changed")
				}
			})
			if !slices.Equal(got, want) {
				t.Fatal(step, show(got), show(want))
			}
		}
	}
}

// P11.3: no two that were told share memory, nor what one of them could grow to.
func TestToldApart(t *testing.T) {
	for _, s := range streams() {
		want, _ := slowRead(s)
		for _, step := range steps(s) {
			var all [][]byte
			feedAll(s, step, func(_ []byte, told [][]byte) { all = append(all, told...) })
			for i := range all {
				spoil(all[i])
				for j := range all {
					if j > i && string(all[j]) != want[j] {
						t.Fatal(step, i, j, "two that were told share memory")
					}
				}
			}
			// Each was changed once, and stays so when the others are.
			for i, b := range all {
				spoil(b)
				if string(b) != want[i] {
					t.Fatal(step, i, "two that were told share memory")
				}
			}
		}
	}
}

// P11.3: no two lists that were told share memory, nor what one of them could grow to.
func TestListsApart(t *testing.T) {
	for _, s := range streams() {
		for _, step := range steps(s) {
			var lists [][][]byte
			var want [][]string
			feedAll(s, step, func(_ []byte, told [][]byte) {
				lists = append(lists, told)
				want = append(want, texts(told))
			})
			for i, l := range lists {
				if !slices.Equal(texts(l), want[i]) {
					t.Fatal(step, i, "two lists share memory")
				}
				l = l[:cap(l)]
				for k := range l {
					l[k] = []byte("changed")
				}
			}
		}
	}
}

// P11.3: what was told stays as it is, whatever the reader reads behind it, and another one.
func TestToldStays(t *testing.T) {
	r, other := frame.New(), frame.New()
	var all [][]byte
	var lists [][][]byte
	var want []string
	for n := range 700 {
		s := body(n * 17 % 4001)
		cut := n * 13 % (len(s) + 2)
		for _, piece := range []string{framed(s)[:cut], framed(s)[cut:]} {
			told, err := r.Feed([]byte(piece))
			if err != nil {
				t.Fatal(err)
			}
			all = append(all, told...)
			lists = append(lists, told)
			if _, err := other.Feed([]byte(framed(body(n)))); err != nil {
				t.Fatal(err)
			}
		}
		want = append(want, s)
	}
	r.Feed([]byte("\x00\x09abc"))
	r.Feed([]byte("abcdef\x0f\xa1abc"))
	if !slices.Equal(texts(all), want) || !slices.Equal(texts(slices.Concat(lists...)), want) {
		t.Error(show(texts(all)), show(want))
	}
}
