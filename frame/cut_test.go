package frame_test

import (
	"math/rand"
	"slices"
	"strings"
	"testing"

	"plover/api"
	"plover/frame"
)

// The document's words once more, of a stream that is there as a whole: an oracle for the tests.

// slowRead is the frames of a stream, and what its end is.
func slowRead(s string) ([]string, error) {
	var l []string
	for s != "" {
		if len(s) == 1 {
			return l, api.ErrTrunc
		}
		size := int(s[0])*256 + int(s[1])
		if size > 4000 {
			return l, api.ErrLarge
		}
		if len(s) < 2+size {
			return l, api.ErrTrunc
		}
		l = append(l, s[2:2+size])
		s = s[2+size:]
	}
	return l, nil
}

// wantPieces feeds a stream that is cut at those places, and fails if with a piece not just those frames are told that it makes whole, or another error, or if the end is another one.
func wantPieces(t *testing.T, s string, cuts []int) {
	t.Helper()
	r, quiet := frame.New(), frame.New()
	from, known := 0, 0
	for _, to := range append(cuts[:len(cuts):len(cuts)], len(s)) {
		all, end := slowRead(s[:to])
		var wantErr error
		if end == api.ErrLarge {
			wantErr = end
		}
		got, err := r.Feed([]byte(s[from:to]))
		if err != wantErr || !slices.Equal(texts(got), all[known:]) || r.End() != end {
			t.Fatalf("%.60q cut at %v, to %d: %s, %v, end %v; not %s, %v", s, cuts, to, show(texts(got)), err, r.End(), show(all[known:]), end)
		}
		// One that isn't asked for its end in between tells the same.
		other, err := quiet.Feed([]byte(s[from:to]))
		if err != wantErr || !slices.Equal(texts(other), all[known:]) {
			t.Fatalf("%.60q cut at %v, to %d: %s, %v", s, cuts, to, show(texts(other)), err)
		}
		from, known = to, len(all)
	}
	if _, end := slowRead(s); quiet.End() != end {
		t.Fatalf("%.60q cut at %v: %v, not %v", s, cuts, quiet.End(), end)
	}
}

// places are a number's bits that are set, each a place behind the first byte.
func places(bits int) []int {
	var l []int
	for i := 1; bits > 0; i, bits = i+1, bits>>1 {
		if bits%2 > 0 {
			l = append(l, i)
		}
	}
	return l
}

// short are streams of all sorts that have few bytes.
func short() []string {
	return []string{
		"",
		"\x00\x00\x00\x00\x00\x00",
		"\x00\x01a\x00\x00\x00\x02bc\x00\x00",
		"\x00\x05\x00\x01\x0f\xa1\xff\x00\x01a",
		"\x00\x02\x0f\xa1\x00\x00\x0f",
		"\x00\x01a\x0f\xa1\x00\x01b",
		"\x00\x00\xff\xff\x00\x00\x00",
		"\x00\x01a\x00\x02\xff\xff\x10\x00\xff",
		"\x00\x03\x00\x00\x00\x01\x00abcd",
		"\x0f\xa0\x00\x00\x00\x01b",
	}
}

// P11.4: short streams, cut in each way that there is.
func TestEveryCutting(t *testing.T) {
	for _, s := range short() {
		for bits := range 1 << max(len(s)-1, 0) {
			wantPieces(t, s, places(bits))
		}
	}
}

// P11.2, P11.4: all short streams of some bytes, cut in each way that there is.
func TestEveryShortOne(t *testing.T) {
	var try func(s string, left int)
	try = func(s string, left int) {
		for bits := range 1 << max(len(s)-1, 0) {
			wantPieces(t, s, places(bits))
		}
		for _, c := range []string{"\x00", "\x01", "\x02", "\x0f", "\xa1"} {
			if left > 0 {
				try(s+c, left-1)
			}
		}
	}
	try("", 6)
}

// long are streams with frames as great as may be, that end well, within a frame's head, within its bytes, and amiss.
func long() []string {
	three := framed(body(4000)) + framed("") + framed(body(3999)) + framed(body(256)) + framed(body(255)) + framed("a")
	return []string{three, three + "\x0f", three + "\x0f\xa0" + body(3999), three + "\x0f\xa1" + three, framed("a") + "\xff\xff" + three}
}

// P11.4: greater streams, in two pieces, cut at each place.
func TestEveryCutInTwo(t *testing.T) {
	for _, s := range long() {
		for n := range len(s) + 1 {
			wantPieces(t, s, []int{n})
		}
	}
}

// P11.4: greater streams byte by byte, and in pieces of some bytes, with pieces of no bytes between them.
func TestByteByByte(t *testing.T) {
	for _, s := range long() {
		for _, step := range []int{1, 2, 3, 5, 255, 256, 1000, 3999, 4000, 4001, 4002, 4003} {
			var once, thrice []int
			for n := step; n < len(s); n += step {
				once = append(once, n)
				thrice = append(thrice, n, n, n)
			}
			wantPieces(t, s, once)
			wantPieces(t, s, thrice)
		}
	}
}

// anyStream is one of some frames, mostly small ones, or ones at the edges; it may end amiss, or be cut off.
func anyStream(rnd *rand.Rand) string {
	var s strings.Builder
	for range rnd.Intn(20) {
		n := rnd.Intn(1 << rnd.Intn(11))
		if rnd.Intn(6) == 0 {
			n = sizes()[rnd.Intn(len(sizes()))]
		}
		s.WriteString(framed(body(n)))
		if rnd.Intn(60) == 0 {
			s.WriteString(tooLarge()[rnd.Intn(len(tooLarge()))])
		}
	}
	if rnd.Intn(2) == 0 {
		return s.String()
	}
	return s.String()[:rnd.Intn(s.Len()+1)]
}

// anyCuts are some places of a stream, rising; some stand there twice, and many about others.
func anyCuts(rnd *rand.Rand, s string) []int {
	var l []int
	for range rnd.Intn(1 << rnd.Intn(8)) {
		n := rnd.Intn(len(s) + 1)
		for range rnd.Intn(4) {
			l = append(l, n)
			n = min(n+rnd.Intn(4), len(s))
		}
	}
	slices.Sort(l)
	return l
}

// P11.2, P11.4: random streams in random pieces, of which enough end well, cut off and amiss.
func TestAnyPieces(t *testing.T) {
	rnd := rand.New(rand.NewSource(11))
	ends := map[error]int{}
	for range 3000 {
		s := anyStream(rnd)
		for range 5 {
			wantPieces(t, s, anyCuts(rnd, s))
		}
		_, end := slowRead(s)
		ends[end]++
	}
	if len(ends) != 3 || ends[nil] < 200 || ends[api.ErrTrunc] < 200 || ends[api.ErrLarge] < 200 {
		t.Error(ends)
	}
}

// P11.1, P11.4: what Put makes of many is what is told of them.
func TestPutAndFeed(t *testing.T) {
	rnd := rand.New(rand.NewSource(4))
	for range 300 {
		var all []byte
		var want []string
		for range rnd.Intn(30) {
			s := body(rnd.Intn(4001))
			b, err := frame.Put([]byte(s))
			if err != nil {
				t.Fatal(err)
			}
			all = append(all, b...)
			want = append(want, s)
		}
		wantPieces(t, string(all), anyCuts(rnd, string(all)))
		r := frame.New()
		wantFeed(t, r, string(all), want, nil)
		wantEnd(t, r, nil)
	}
}

// P1, P11.4: a stream of many bytes, byte by byte and all at once, ends in good time.
func TestManyBytes(t *testing.T) {
	whole := []byte(framed(body(4000)))
	r := frame.New()
	told := 0
	for range 2000 {
		for i := range whole {
			l, err := r.Feed(whole[i : i+1])
			if err != nil || len(l) > 0 && (i < len(whole)-1 || string(l[0]) != string(whole[2:])) {
				t.Fatal(i, len(l), err)
			}
			told += len(l)
		}
	}
	if told != 2000 {
		t.Error(told)
	}
	wantEnd(t, r, nil)
	l, err := r.Feed(make([]byte, 1<<23+1))
	if err != nil || len(l) != 1<<22 || slices.ContainsFunc(l, func(b []byte) bool { return len(b) > 0 }) {
		t.Error(len(l), err)
	}
	wantEnd(t, r, api.ErrTrunc)
	l, err = r.Feed(slices.Repeat([]byte{255}, 1<<24))
	if err != api.ErrLarge || len(l) != 1 || len(l[0]) != 255 {
		t.Error(len(l), err)
	}
}

// P1, P11.2, P11.4: any bytes, in any pieces.
func FuzzFeed(f *testing.F) {
	for _, s := range append(short(), long()...) {
		f.Add([]byte(s), []byte{1, 1, 0, 255, 3})
	}
	f.Fuzz(func(t *testing.T, b, steps []byte) {
		var cuts []int
		at := 0
		for _, n := range steps {
			at = min(at+int(n), len(b))
			cuts = append(cuts, at)
		}
		wantPieces(t, string(b), cuts)
	})
}
