package link_test

import (
	"math"
	"testing"

	"plover/api"
	"plover/link"
)

// P15.1, R3: windows that may be, and ones that may not, those too whose last bits are a window.
func TestWindows(t *testing.T) {
	for n := range 64 {
		if s, err := link.NewSender(n + 1); err != nil || s == nil || s.Len() != 0 {
			t.Error(n+1, s, err)
		}
	}
	for _, n := range []int{0, -1, -2, -63, -64, -65, 65, 66, 127, 128, 129, 200, 256, 257, 65536, 65537, 1<<31 + 1, 1 << 32, 1<<32 + 1, 1<<32 + 64, -1<<32 + 1, math.MinInt, math.MinInt + 1, math.MaxInt, math.MaxInt - 1} {
		if s, err := link.NewSender(n); err != api.ErrArg || s != nil {
			t.Error(n, s, err)
		}
	}
}

// The document's example.
func TestExample(t *testing.T) {
	s := newSender(t, 1)
	for _, x := range []string{"a", "b"} {
		if err := s.Send([]byte(x)); err != nil {
			t.Error(err)
		}
	}
	wantPackets(t, s.Fresh(), 0, "a")
}

// wantLen fails if not so many are in the queue.
func wantLen(t *testing.T, s *link.Sender, want int) {
	t.Helper()
	for range 2 {
		if n := s.Len(); n != want {
			t.Fatalf("%d in the queue, not %d", n, want)
		}
	}
}

// far are numbers far from small ones, and such as have a small one's last bits.
func far() []uint64 {
	return []uint64{1 << 8, 1<<8 + 1, 1 << 16, 1<<16 + 1, 1<<31 - 1, 1 << 31, 1<<31 + 1, 1<<32 - 1, 1 << 32, 1<<32 + 1, 1<<32 + 2, 1<<63 - 1, 1 << 63, 1<<63 + 1, 1<<64 - 2, 1<<64 - 1}
}

// P15.1: a new sender, of which nothing is to be told, and nothing acknowledged.
func TestNothing(t *testing.T) {
	for _, window := range []int{1, 2, 64} {
		s := newSender(t, window)
		for _, n := range append(far(), 0, 1, 2, 64) {
			wantLen(t, s, 0)
			wantPackets(t, s.Fresh(), 0)
			wantPackets(t, s.Again(), 0)
			s.Ack(n)
		}
		wantLen(t, s, 0)
		if err := s.Send([]byte("a")); err != nil {
			t.Error(err)
		}
		wantLen(t, s, 1)
		wantPackets(t, s.Again(), 0)
		wantPackets(t, s.Fresh(), 0, "a")
		s.Ack(1)
		wantLen(t, s, 0)
		wantPackets(t, s.Fresh(), 0)
		wantPackets(t, s.Again(), 0)
	}
}

// datas are the data of some numbers.
func datas(from, to int) []string {
	var l []string
	for n := from; n < to; n++ {
		l = append(l, data(n))
	}
	return l
}

// sendAll sends the data of some numbers.
func sendAll(t *testing.T, s *link.Sender, from, to int) {
	t.Helper()
	for n := from; n < to; n++ {
		if err := s.Send([]byte(data(n))); err != nil {
			t.Fatal(n, err)
		}
	}
}

// P15.1: queues and windows of all sizes, the window less, as great, and greater; what was told isn't fresh any more, and told again as often as one likes.
func TestWithin(t *testing.T) {
	for window := 1; window <= 64; window++ {
		for _, n := range []int{0, 1, 2, 3, 62, 63, 64, 65, 66, 199, 200} {
			s := newSender(t, window)
			sendAll(t, s, 0, n)
			wantLen(t, s, n)
			wantPackets(t, s.Again(), 0)
			told := min(n, window)
			wantPackets(t, s.Fresh(), 0, datas(0, told)...)
			for range 3 {
				wantPackets(t, s.Fresh(), 0)
				wantPackets(t, s.Again(), 0, datas(0, told)...)
			}
			wantLen(t, s, n)
		}
	}
}

// P15.1: what is sent behind a call of Fresh is fresh, as far as the window goes.
func TestBehindFresh(t *testing.T) {
	s := newSender(t, 5)
	for n := range 8 {
		wantPackets(t, s.Fresh(), 0)
		sendAll(t, s, n, n+1)
		wantPackets(t, s.Again(), 0, datas(0, min(n, 5))...)
		wantPackets(t, s.Fresh(), uint64(n), datas(n, max(n, min(n+1, 5)))...)
		wantPackets(t, s.Again(), 0, datas(0, min(n+1, 5))...)
	}
	wantLen(t, s, 8)
}

// P15.1: a full window gets room by an acknowledgement: as much as leaves.
func TestWindowGetsRoom(t *testing.T) {
	for _, window := range []int{1, 2, 3, 10, 63, 64} {
		for leave := range window + 1 {
			s := newSender(t, window)
			sendAll(t, s, 0, 200)
			wantPackets(t, s.Fresh(), 0, datas(0, window)...)
			s.Ack(uint64(leave))
			wantLen(t, s, 200-leave)
			wantPackets(t, s.Again(), uint64(leave), datas(leave, window)...)
			wantPackets(t, s.Fresh(), uint64(window), datas(window, window+leave)...)
			wantPackets(t, s.Fresh(), 0)
			wantPackets(t, s.Again(), uint64(leave), datas(leave, window+leave)...)
		}
	}
}

// P15.1: a queue that is full refuses data of all sorts, and stays as it is; an acknowledgement makes room for as many as leave.
func TestFull(t *testing.T) {
	for _, window := range []int{1, 7, 64} {
		s := newSender(t, window)
		sendAll(t, s, 0, 199)
		wantLen(t, s, 199)
		sendAll(t, s, 199, 200)
		refuse := func() {
			t.Helper()
			wantLen(t, s, 200)
			for _, b := range [][]byte{nil, {}, []byte("a"), make([]byte, 100000)} {
				if err := s.Send(b); err != api.ErrFull {
					t.Fatal(len(b), err)
				}
			}
			wantLen(t, s, 200)
		}
		refuse()
		wantPackets(t, s.Fresh(), 0, datas(0, window)...)
		refuse()
		for _, n := range append(far(), 0, uint64(window)+1, 200, 201) {
			s.Ack(n)
			refuse()
		}
		for n := range 300 {
			s.Ack(uint64(n + 1))
			wantLen(t, s, 199)
			sendAll(t, s, n+200, n+201)
			refuse()
			wantPackets(t, s.Fresh(), uint64(n+window), data(n+window))
			refuse()
		}
		s.Ack(uint64(300 + window))
		sendAll(t, s, 500, 500+window)
		refuse()
	}
}

// P15.1, P15.2: data that are nil, empty, of one byte, and long; they come as they were sent.
func TestData(t *testing.T) {
	l := []string{"", "", "\x00", "a", "\xff", "\x00\x00", "ab", body(199), body(200), body(255), body(256), body(4000), body(4001), body(65535), body(65536), body(1<<21 + 3), ""}
	s, r := newSender(t, 64), link.NewReceiver()
	for i, x := range l {
		given := []byte(x)
		if i == 0 {
			given = nil
		}
		if err := s.Send(given); err != nil {
			t.Fatal(i, err)
		}
	}
	wantPackets(t, s.Fresh(), 0, l...)
	for i, p := range s.Again() {
		if b, is := r.Take(p); !is || string(b) != l[i] {
			t.Error(i, len(b), is)
		}
	}
	wantPackets(t, s.Again(), 0, l...)
	r = link.NewReceiver()
	for i, b := range [][]byte{nil, {}, {0}} {
		if got, is := r.Take(api.Packet{Seq: uint64(i), Data: b}); !is || string(got) != string(b) {
			t.Error(i, got, is)
		}
	}
}

// P15.1: 10 are sent with a window of 3, of which 2 have left, and 5 were told: each number that is acknowledged then.
func TestAck(t *testing.T) {
	state := func() *link.Sender {
		s := newSender(t, 3)
		sendAll(t, s, 0, 10)
		s.Fresh()
		s.Ack(2)
		wantPackets(t, s.Fresh(), 3, datas(3, 5)...)
		wantLen(t, s, 8)
		return s
	}
	nothing := append(far(), 0, 1, 2, 6, 7, 8, 9, 10, 11, 12, 1<<8+3, 1<<16+4, 1<<32+3, 1<<32+5, 1<<63+5, 1<<64-3, 1<<64-5)
	for _, n := range nothing {
		s := state()
		s.Ack(n)
		wantLen(t, s, 8)
		wantPackets(t, s.Fresh(), 0)
		wantPackets(t, s.Again(), 2, datas(2, 5)...)
		s.Ack(5)
		wantLen(t, s, 5)
	}
	for n := 3; n <= 5; n++ {
		s := state()
		for range 2 { // twice: the second one changes nothing
			s.Ack(uint64(n))
			wantLen(t, s, 10-n)
			wantPackets(t, s.Again(), uint64(n), datas(n, 5)...)
		}
		wantPackets(t, s.Fresh(), 5, datas(5, n+3)...)
		s.Ack(uint64(n))
		wantLen(t, s, 10-n)
		wantPackets(t, s.Again(), uint64(n), datas(n, n+3)...)
	}
}

// P15.1: what wasn't told yet doesn't leave, though the window has it.
func TestAckUntold(t *testing.T) {
	s := newSender(t, 8)
	sendAll(t, s, 0, 3)
	for n := range uint64(5) {
		s.Ack(n)
		wantLen(t, s, 3)
		wantPackets(t, s.Again(), 0)
	}
	s.Fresh()
	sendAll(t, s, 3, 6)
	for n := uint64(4); n < 8; n++ {
		s.Ack(n)
		wantLen(t, s, 6)
	}
	s.Ack(3)
	wantLen(t, s, 3)
	wantPackets(t, s.Again(), 0)
	s.Ack(4)
	wantLen(t, s, 3)
	wantPackets(t, s.Fresh(), 3, datas(3, 6)...)
	s.Ack(7)
	wantLen(t, s, 3)
	s.Ack(6)
	wantLen(t, s, 0)
}

// wantTaken fails if a packet isn't taken.
func wantTaken(t *testing.T, r *link.Receiver, n uint64) {
	t.Helper()
	s := data(int(n))
	if r.Want() != n || r.Want() != n {
		t.Fatal(r.Want(), "is waited for, not", n)
	}
	if b, is := r.Take(api.Packet{Seq: n, Data: []byte(s)}); !is || string(b) != s {
		t.Fatalf("%d: %.20q, %v", n, b, is)
	}
	if r.Want() != n+1 {
		t.Fatal(r.Want(), "is waited for behind", n)
	}
}

// wantNotTaken fails if a packet is taken, or changes what is waited for.
func wantNotTaken(t *testing.T, r *link.Receiver, n uint64) {
	t.Helper()
	want := r.Want()
	for _, data := range []string{"", "not taken"} {
		if b, is := r.Take(api.Packet{Seq: n, Data: []byte(data)}); is || len(b) > 0 {
			t.Fatalf("%d: %.20q, %v, though %d is waited for", n, b, is, want)
		}
		if r.Want() != want {
			t.Fatal(r.Want(), "is waited for, not", want)
		}
	}
}

// P15.2: a new receiver waits for 0, and takes packets in order.
func TestTake(t *testing.T) {
	r := link.NewReceiver()
	for n := range uint64(500) {
		wantTaken(t, r, n)
		wantNotTaken(t, r, n) // twice
	}
	if b, is := link.NewReceiver().Take(api.Packet{}); !is || len(b) > 0 {
		t.Error(b, is)
	}
}

// P15.2: packets that come late, early, from far below and from far above, and ones with the last bits of the one that is waited for.
func TestOthersNotTaken(t *testing.T) {
	r := link.NewReceiver()
	for n := range uint64(70000) {
		if n < 300 || n%4999 == 0 || n > 65530 && n < 65540 {
			for bit := range 64 {
				wantNotTaken(t, r, n^1<<bit)
				wantNotTaken(t, r, n+1<<bit)
				wantNotTaken(t, r, n-1<<bit)
			}
			for _, x := range []uint64{0, 1, 2, n / 2, n - 200, n - 64, n - 3, n - 2, n + 2, n + 3, n + 63, n + 65, n + 200, 2*n + 1, math.MaxUint64, ^n} {
				if x != n {
					wantNotTaken(t, r, x)
				}
			}
		}
		wantTaken(t, r, n)
	}
}

// P15.2: all orders in which eight packets of five numbers can come.
func TestTakeOrders(t *testing.T) {
	for run := range 5 * 5 * 5 * 5 * 5 * 5 * 5 * 5 {
		r := link.NewReceiver()
		want := 0
		for range 8 {
			n := run % 5
			run /= 5
			b, is := r.Take(api.Packet{Seq: uint64(n), Data: []byte{'a' + byte(n)}})
			if is != (n == want) || is && string(b) != string('a'+rune(n)) || !is && len(b) > 0 {
				t.Fatal(n, b, is, "waits for", want)
			}
			if is {
				want++
			}
			if r.Want() != uint64(want) {
				t.Fatal(r.Want(), "is waited for, not", want)
			}
		}
	}
}

// P15.1: two senders, and two receivers, have nothing of each other.
func TestTwo(t *testing.T) {
	one, other := newBoth(t, 2), newBoth(t, 5)
	first, second := link.NewReceiver(), link.NewReceiver()
	for i := range 40 {
		one.sendMany(2)
		other.len()
		other.again()
		other.sendMany(1)
		one.fresh()
		one.again()
		other.fresh()
		one.ack(uint64(i))
		other.again()
		other.ack(uint64(i / 2))
		one.again()
		wantTaken(t, first, uint64(i))
		if i%2 == 0 {
			wantTaken(t, second, uint64(i/2))
		}
	}
	one.drain()
	other.drain()
}

// P15.1: numbers go on rising, over the edges of small sorts of integers, when all before has left long ago.
func TestLong(t *testing.T) {
	for _, window := range []int{3, 64} {
		s := newSender(t, window)
		for from := 0; from < 70000; from += window {
			sendAll(t, s, from, from+window)
			wantPackets(t, s.Fresh(), uint64(from), datas(from, from+window)...)
			first, next := uint64(from), uint64(from+window)
			for _, n := range []uint64{0, min(first, 1), first / 2, first, next + 1, next + 1<<8, next + 1<<16, next + 1<<32, next - 1<<8, next - 1<<16, next - 1<<32} {
				s.Ack(n)
				wantLen(t, s, window)
			}
			s.Ack(next - 1)
			wantPackets(t, s.Again(), next-1, data(from+window-1))
			s.Ack(next)
			wantLen(t, s, 0)
		}
	}
}
