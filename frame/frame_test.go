package frame_test

import (
	"fmt"
	"slices"
	"strings"
	"testing"

	"plover/api"
	"plover/frame"
)

// sizes are those of frames that may be: the edges that the document and the head's two bytes have, and some about them.
func sizes() []int {
	return []int{0, 1, 2, 3, 65, 127, 128, 254, 255, 256, 257, 511, 512, 3839, 3840, 3841, 3999, 4000}
}

// tooLarge are heads that tell more than a frame may have.
func tooLarge() []string {
	return []string{"\x0f\xa1", "\x0f\xa2", "\x0f\xff", "\x10\x00", "\x10\x01", "\x1f\xa0", "\x80\x00", "\x80\x01", "\xff\x00", "\xff\xff"}
}

// body is a text of so many bytes, of all sorts, that looks like heads at places.
func body(n int) string {
	b := make([]byte, n)
	for i := range b {
		b[i] = byte(i*i/7 + n)
		if i%11 < 2 {
			b[i] = []byte{15, 161}[i%11]
		}
	}
	return string(b)
}

// framed is a text as a frame.
func framed(s string) string {
	return string([]byte{byte(len(s) / 256), byte(len(s) % 256)}) + s
}

// texts are frames as texts.
func texts(l [][]byte) []string {
	var s []string
	for _, b := range l {
		s = append(s, string(b))
	}
	return s
}

// show is the beginning of some texts.
func show(l []string) string {
	var s strings.Builder
	for _, x := range l[:min(len(l), 12)] {
		fmt.Fprintf(&s, "%.40q (%d) ", x, len(x))
	}
	return fmt.Sprint(s.String(), "of ", len(l))
}

// wantFeed feeds a piece, and fails if other frames are told, or another error.
func wantFeed(t *testing.T, r *frame.Reader, piece string, want []string, wantErr error) {
	t.Helper()
	got, err := r.Feed([]byte(piece))
	if err != wantErr || !slices.Equal(texts(got), want) {
		t.Fatalf("%s: %s, %v, not %s, %v", show([]string{piece}), show(texts(got)), err, show(want), wantErr)
	}
}

// wantEnd asks for the end, twice, and fails if it isn't that.
func wantEnd(t *testing.T, r *frame.Reader, want error) {
	t.Helper()
	for range 2 {
		if err := r.End(); err != want {
			t.Fatalf("%v, not %v", err, want)
		}
	}
}

// wantFollows fails if a reader doesn't read on from a frame's begin.
func wantFollows(t *testing.T, r *frame.Reader) {
	t.Helper()
	wantEnd(t, r, nil)
	wantFeed(t, r, "\x00\x03abc\x00\x00\x00\x01d", []string{"abc", "", "d"}, nil)
	wantEnd(t, r, nil)
}

// wantAmiss fails if a reader doesn't stay amiss, whatever comes.
func wantAmiss(t *testing.T, r *frame.Reader) {
	t.Helper()
	wantEnd(t, r, api.ErrLarge)
	for _, piece := range []string{"", "\x00", "\x00\x00", "\x00\x01a", framed(body(4000)), "\x00\x01a\x00\x01b", "\x0f\xa1", "\xff\xff", "\x0f", "\xa1", body(10000), ""} {
		wantFeed(t, r, piece, nil, api.ErrLarge)
		wantEnd(t, r, api.ErrLarge)
	}
	for range 3 {
		if l, err := r.Feed(nil); err != api.ErrLarge || len(l) > 0 {
			t.Fatal(l, err)
		}
	}
	wantEnd(t, r, api.ErrLarge)
}

// P11.1: frames of all sizes that may be.
func TestPut(t *testing.T) {
	for n := range 4001 {
		s := body(n)
		if b, err := frame.Put([]byte(s)); err != nil || string(b) != framed(s) {
			t.Fatalf("%d: %.20q, %v", n, b, err)
		}
	}
}

// P11.1: the edges, each head written out.
func TestPutHead(t *testing.T) {
	for _, c := range []struct {
		n    int
		head string
	}{{0, "\x00\x00"}, {1, "\x00\x01"}, {65, "\x00\x41"}, {127, "\x00\x7f"}, {128, "\x00\x80"}, {255, "\x00\xff"}, {256, "\x01\x00"}, {257, "\x01\x01"}, {512, "\x02\x00"}, {3839, "\x0e\xff"}, {3840, "\x0f\x00"}, {3999, "\x0f\x9f"}, {4000, "\x0f\xa0"}} {
		for _, fill := range []string{"\x00", "A", "\xff"} {
			s := strings.Repeat(fill, c.n)
			if b, err := frame.Put([]byte(s)); err != nil || string(b) != c.head+s {
				t.Errorf("%d: %.20q, %v", c.n, b, err)
			}
		}
	}
	if b, err := frame.Put(nil); err != nil || string(b) != "\x00\x00" {
		t.Error(b, err)
	}
	if b, err := frame.Put([]byte{65}); err != nil || string(b) != "\x00\x01A" { // the document's example
		t.Error(b, err)
	}
}

// P11.1, R3: more bytes than may be, those too whose number's last 16 bits would be fewer.
func TestPutTooLarge(t *testing.T) {
	for _, n := range []int{4001, 4002, 4095, 4096, 5000, 8000, 32767, 32768, 65534, 65535, 65536, 65537, 69535, 69536, 69537, 1 << 17, 1<<24 + 1} {
		if b, err := frame.Put(make([]byte, n)); err != api.ErrLarge || b != nil {
			t.Errorf("%d: %d bytes, %v", n, len(b), err)
		}
	}
}

// P11.1, P11.2: a new reader, with nothing given, and with pieces of no bytes and nil ones.
func TestNothing(t *testing.T) {
	r := frame.New()
	wantEnd(t, r, nil)
	for range 3 {
		if l, err := r.Feed(nil); err != nil || len(l) > 0 {
			t.Error(l, err)
		}
		wantEnd(t, r, nil)
		wantFeed(t, r, "", nil, nil)
		wantEnd(t, r, nil)
	}
	wantFollows(t, r)
	wantEnd(t, frame.New(), nil)
}

// P11.2: a frame of each size in one piece, and as Put makes it; and with others behind it.
func TestOneFrame(t *testing.T) {
	for _, n := range sizes() {
		s := body(n)
		r := frame.New()
		wantFeed(t, r, framed(s), []string{s}, nil)
		wantFollows(t, r)
		b, err := frame.Put([]byte(s))
		if err != nil {
			t.Error(n, err)
		}
		wantFeed(t, r, string(b), []string{s}, nil)
		wantFeed(t, r, string(b)+string(b)+"\x00\x00", []string{s, s, ""}, nil)
		wantFollows(t, r)
	}
}

// P11.2: many frames in one piece.
func TestManyFrames(t *testing.T) {
	var all string
	var want []string
	for _, n := range sizes() {
		for _, m := range sizes() {
			all += framed(body(n)) + framed(body(m))
			want = append(want, body(n), body(m))
		}
	}
	r := frame.New()
	wantFeed(t, r, all, want, nil)
	wantFollows(t, r)
	wantFeed(t, r, strings.Repeat("\x00\x00", 1<<16), make([]string, 1<<16), nil)
	wantFollows(t, r)
}

// P11.2: a frame's first byte alone, whatever it is: what the frame tells isn't known ahead of the second one.
func TestFirstByte(t *testing.T) {
	for c := range 256 {
		first := string([]byte{byte(c)})
		r := frame.New()
		wantFeed(t, r, first, nil, nil)
		wantEnd(t, r, api.ErrTrunc)
		wantFeed(t, r, "", nil, nil)
		wantEnd(t, r, api.ErrTrunc)
		r = frame.New()
		wantFeed(t, r, "\x00\x01a"+first, []string{"a"}, nil)
		wantEnd(t, r, api.ErrTrunc)
	}
}

// P11.2: a frame of each size whose bytes come piece by piece: its head, or its first byte, then some of it, then all but its last byte, then that.
func TestUnderWay(t *testing.T) {
	for _, n := range sizes() {
		s := framed(body(n))
		for _, ends := range [][]int{{1}, {2}, {1, 2}, {2, 3}, {1, 2, 3}, {3}, {2, len(s) - 1}, {len(s) - 1}, {1, len(s) - 1}, {len(s) / 2}, {1, len(s) / 2, len(s) - 1}} {
			r := frame.New()
			from := 0
			for _, to := range ends {
				if from < to && to < len(s) {
					wantFeed(t, r, s[from:to], nil, nil)
					wantEnd(t, r, api.ErrTrunc)
					wantFeed(t, r, "", nil, nil)
					wantEnd(t, r, api.ErrTrunc)
					from = to
				}
			}
			wantFeed(t, r, s[from:], []string{s[2:]}, nil)
			wantFollows(t, r)
		}
	}
}

// P11.2: a frame is told with the piece that ends it, and those that are whole behind it too; what is under way then isn't.
func TestEndsAndBegins(t *testing.T) {
	r := frame.New()
	wantFeed(t, r, "\x00\x02a", nil, nil)
	wantFeed(t, r, "b\x00\x00\x00\x01c\x00\x03d", []string{"ab", "", "c"}, nil)
	wantEnd(t, r, api.ErrTrunc)
	wantFeed(t, r, "e", nil, nil)
	wantFeed(t, r, "f\x00", []string{"def"}, nil)
	wantEnd(t, r, api.ErrTrunc)
	wantFeed(t, r, "\x00\x01", []string{""}, nil)
	wantEnd(t, r, api.ErrTrunc)
	wantFeed(t, r, "\x00", nil, nil)
	wantEnd(t, r, api.ErrTrunc)
	wantFeed(t, r, "\x00", nil, nil)
	wantEnd(t, r, api.ErrTrunc)
	wantFeed(t, r, strings.Repeat("g", 254), nil, nil)
	wantEnd(t, r, api.ErrTrunc)
	wantFeed(t, r, "h", []string{"\x00" + strings.Repeat("g", 254) + "h"}, nil)
	wantFollows(t, r)
}

// P11.2: a head that tells too much: as the first one, and behind frames that are whole, in one piece with them and not; whole, and cut.
func TestTooLarge(t *testing.T) {
	for _, head := range tooLarge() {
		for _, behind := range []string{"", "\x00", "\x00\x00", "\x00\x01a", head, body(4001), body(70000) + "\x00\x01a"} {
			r := frame.New()
			wantFeed(t, r, head+behind, nil, api.ErrLarge)
			wantAmiss(t, r)

			r = frame.New()
			wantFeed(t, r, "\x00\x01a\x00\x00\x00\x02bc"+head+behind, []string{"a", "", "bc"}, api.ErrLarge)
			wantAmiss(t, r)

			r = frame.New()
			wantFeed(t, r, "\x00\x01a", []string{"a"}, nil)
			wantFeed(t, r, head+behind, nil, api.ErrLarge)
			wantAmiss(t, r)

			r = frame.New()
			wantFeed(t, r, head[:1], nil, nil)
			wantEnd(t, r, api.ErrTrunc)
			wantFeed(t, r, head[1:]+behind, nil, api.ErrLarge)
			wantAmiss(t, r)

			r = frame.New()
			wantFeed(t, r, "\x00\x01a"+head[:1], []string{"a"}, nil)
			wantEnd(t, r, api.ErrTrunc)
			wantFeed(t, r, head[1:]+behind, nil, api.ErrLarge)
			wantAmiss(t, r)

			r = frame.New()
			wantFeed(t, r, "\x00\x02a", nil, nil)
			wantFeed(t, r, "b"+framed(body(4000))+head+behind, []string{"ab", body(4000)}, api.ErrLarge)
			wantAmiss(t, r)
		}
	}
}

// P11.2: each head that there is, with as many bytes as it tells, and one fewer; its second byte is the lower one.
func TestEveryHead(t *testing.T) {
	for size := range 65536 {
		head := string([]byte{byte(size / 256), byte(size % 256)})
		r := frame.New()
		if size > 4000 {
			wantFeed(t, r, head, nil, api.ErrLarge)
			wantEnd(t, r, api.ErrLarge)
			continue
		}
		s := body(size)
		if size > 0 {
			wantFeed(t, r, head+s[1:], nil, nil)
			wantEnd(t, r, api.ErrTrunc)
			wantFeed(t, r, "!", []string{s[1:] + "!"}, nil)
			wantEnd(t, r, nil)
		}
		wantFeed(t, r, head+s+"\x00", []string{s}, nil)
		wantEnd(t, r, api.ErrTrunc)
	}
}

// P11.2: readers know nothing of each other.
func TestTwoReaders(t *testing.T) {
	a, b, c := frame.New(), frame.New(), frame.New()
	wantFeed(t, a, "\x00\x02a", nil, nil)
	wantEnd(t, b, nil)
	wantFeed(t, b, "\x00", nil, nil)
	wantFeed(t, c, "\x0f\xa1", nil, api.ErrLarge)
	wantEnd(t, a, api.ErrTrunc)
	wantEnd(t, b, api.ErrTrunc)
	wantFeed(t, b, "\x01", nil, nil)
	wantFeed(t, a, "b", []string{"ab"}, nil)
	wantEnd(t, a, nil)
	wantEnd(t, b, api.ErrTrunc)
	wantFeed(t, b, "c", []string{"c"}, nil)
	wantFollows(t, a)
	wantFollows(t, b)
	wantAmiss(t, c)
	wantFollows(t, frame.New())
}
