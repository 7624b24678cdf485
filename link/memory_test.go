package link_test

import (
	"runtime"
	"testing"

	"plover/api"
	"plover/link"
)

// spoil changes all bytes that a slice has, and could grow to.
func spoil(b []byte) {
	b = b[:cap(b)]
	for i := range b {
		b[i] = ^b[i]
	}
}

// spoilPackets changes packets: their data, and then all that the list has, and could grow to.
func spoilPackets(l []api.Packet) {
	for _, p := range l {
		spoil(p.Data)
	}
	l = l[:cap(l)]
	for i := range l {
		l[i] = api.Packet{Seq: 1<<63 + 7, Data: []byte("spoiled")}
	}
}

// roomy is bytes in memory that has more behind them, of another sort.
func roomy(s string, room int) []byte {
	b := append(make([]byte, 0, len(s)+room), s...)
	for i := range room {
		b[:cap(b)][len(s)+i] = byte(7*i + 1)
	}
	return b
}

// wantRoomy fails if bytes, or those behind them, were changed.
func wantRoomy(t *testing.T, b []byte, s string, room int) {
	t.Helper()
	if string(b[:cap(b)]) != string(roomy(s, room)[:len(s)+room]) {
		t.Fatalf("changed: %.40q (%d), with room for %d", s, len(s), room)
	}
}

// wantPackets fails if packets don't have those numbers, from that one on, and those data.
func wantPackets(t *testing.T, l []api.Packet, from uint64, data ...string) {
	t.Helper()
	same := len(l) == len(data)
	for i := range data {
		same = same && l[i].Seq == from+uint64(i) && string(l[i].Data) == data[i]
	}
	if !same {
		t.Fatalf("%s, not %.20q from %d on", show(l), data, from)
	}
}

// newSender is a sender that may be.
func newSender(t *testing.T, window int) *link.Sender {
	t.Helper()
	s, err := link.NewSender(window)
	if err != nil || s == nil {
		t.Fatal(window, s, err)
	}
	return s
}

// sizes are lengths of data.
func sizes() []int { return []int{0, 1, 2, 7, 8, 9, 100, 4000, 70000} }

// P15.3: bytes that were sent aren't changed, by no call, nor is what stands behind them; and they may change.
func TestSentMemory(t *testing.T) {
	for _, n := range sizes() {
		for _, room := range []int{0, 1, 50, 5000} {
			s := newSender(t, 2)
			given := roomy(body(n), room)
			for range 3 {
				if err := s.Send(given); err != nil {
					t.Fatal(err)
				}
			}
			spoilPackets(s.Fresh())
			spoilPackets(s.Again())
			wantRoomy(t, given, body(n), room)
			s.Ack(1)
			spoilPackets(s.Fresh())
			wantRoomy(t, given, body(n), room)
			spoil(given)
			wantPackets(t, s.Again(), 1, body(n), body(n))
			s.Ack(3)
			if err := s.Send(given); err != nil {
				t.Fatal(err)
			}
			changed := string(given)
			spoil(given)
			wantPackets(t, s.Fresh(), 3, changed)
			if string(given) != body(n) {
				t.Error(n, room, "changed")
			}
		}
	}
}

// P15.3: one piece of memory from which many are sent, changed behind each.
func TestSentFromOnePlace(t *testing.T) {
	s := newSender(t, 64)
	place := make([]byte, 5, 9)
	var want []string
	for i := range 64 {
		for j := range place {
			place[j] = byte(i + 3*j)
		}
		part := place[i%3 : 2+i%4]
		want = append(want, string(part))
		if err := s.Send(part); err != nil {
			t.Fatal(err)
		}
	}
	spoil(place)
	wantPackets(t, s.Fresh(), 0, want...)
	spoil(place)
	wantPackets(t, s.Again(), 0, want...)
}

// P15.3: a sender that refuses keeps and changes nothing either.
func TestRefusedMemory(t *testing.T) {
	s := newSender(t, 1)
	for range 200 {
		if err := s.Send(nil); err != nil {
			t.Fatal(err)
		}
	}
	given := roomy("abc", 4)
	if err := s.Send(given); err != api.ErrFull {
		t.Error(err)
	}
	wantRoomy(t, given, "abc", 4)
}

// P15.3: packets that were told may change: their data, what these could grow to, the list, and what it could grow to.
func TestToldMemory(t *testing.T) {
	for _, window := range []int{1, 2, 3, 4, 9, 64} {
		s := newSender(t, window)
		var want []string
		for i := range 70 {
			want = append(want, data(i))
			if err := s.Send([]byte(want[i])); err != nil {
				t.Fatal(err)
			}
		}
		fresh := s.Fresh()
		wantPackets(t, fresh, 0, want[:window]...)
		one, other := s.Again(), s.Again()
		spoilPackets(fresh)
		wantPackets(t, one, 0, want[:window]...)
		spoilPackets(one)
		wantPackets(t, other, 0, want[:window]...)
		third := s.Again()
		spoilPackets(other)
		wantPackets(t, third, 0, want[:window]...)
		s.Ack(1)
		more, fourth := s.Fresh(), s.Again()
		wantPackets(t, third, 0, want[:window]...)
		spoilPackets(third)
		wantPackets(t, more, uint64(window), want[window])
		spoilPackets(more)
		wantPackets(t, fourth, 1, want[1:window+1]...)
		spoilPackets(fourth)
		wantPackets(t, s.Again(), 1, want[1:window+1]...)
	}
}

// P15.3: no two data of one answer share memory, nor what they could grow to.
func TestToldApart(t *testing.T) {
	for _, n := range sizes() {
		s := newSender(t, 8)
		var want []string
		for range 8 {
			want = append(want, body(n))
			if err := s.Send([]byte(body(n))); err != nil {
				t.Fatal(err)
			}
		}
		for _, ask := range []func() []api.Packet{s.Fresh, s.Again, s.Again} {
			l := ask()
			for i := range l {
				spoil(l[i].Data)
				wantPackets(t, l[:i], 0, want[:i]...)
				wantPackets(t, l[i+1:], uint64(i+1), want[i+1:]...)
				spoil(l[i].Data) // as it was
			}
		}
	}
}

// P15.3: what is told stays as it was, whatever is called behind it.
func TestToldStays(t *testing.T) {
	s := newSender(t, 3)
	send := func(l ...string) {
		for _, x := range l {
			if err := s.Send([]byte(x)); err != nil {
				t.Fatal(err)
			}
		}
	}
	send("a", "bb", "ccc", "dddd")
	fresh, again := s.Fresh(), s.Again()
	s.Ack(2)
	send("eeeee", "f")
	second, third := s.Fresh(), s.Again()
	s.Ack(5)
	send("ggg", "hh")
	s.Fresh()
	s.Ack(8)
	send("i", "jj")
	s.Fresh()
	wantPackets(t, fresh, 0, "a", "bb", "ccc")
	wantPackets(t, again, 0, "a", "bb", "ccc")
	wantPackets(t, second, 3, "dddd", "eeeee")
	wantPackets(t, third, 2, "ccc", "dddd", "eeeee")
}

// P15.3: a packet that was handed to Take isn't changed, whether it is taken or not, and what was answered has none of its memory.
func TestTakenMemory(t *testing.T) {
	for _, n := range sizes() {
		for _, room := range []int{0, 1, 50, 5000} {
			r := link.NewReceiver()
			given := roomy(body(n), room)
			for i := range uint64(3) {
				if b, is := r.Take(api.Packet{Seq: i + 1, Data: given}); is || len(b) > 0 {
					t.Fatal(i, is)
				}
				wantRoomy(t, given, body(n), room)
				b, is := r.Take(api.Packet{Seq: i, Data: given})
				if !is || string(b) != body(n) {
					t.Fatal(i, is)
				}
				spoil(b)
				wantRoomy(t, given, body(n), room)
			}
			one, _ := r.Take(api.Packet{Seq: 3, Data: given})
			other, _ := r.Take(api.Packet{Seq: 4, Data: given})
			spoil(given)
			if string(one) != body(n) {
				t.Error(n, room, "what was taken has the packet's memory")
			}
			spoil(one)
			if string(other) != body(n) {
				t.Error(n, room, "two that were taken share memory")
			}
		}
	}
}

// P15.3: what goes from a sender to a receiver, and is changed at each place, is told once more as it was sent.
func TestThroughMemory(t *testing.T) {
	s, r := newSender(t, 4), link.NewReceiver()
	want := []string{"a", "", body(300), "dd"}
	for _, x := range want {
		given := []byte(x)
		if err := s.Send(given); err != nil {
			t.Fatal(err)
		}
		spoil(given)
	}
	for _, ask := range []func() []api.Packet{s.Fresh, s.Again} {
		r = link.NewReceiver()
		for i, p := range ask() {
			b, is := r.Take(p)
			if !is || string(b) != want[i] {
				t.Fatal(i, b, is)
			}
			spoil(b)
			wantPackets(t, []api.Packet{p}, uint64(i), want[i])
			spoil(p.Data)
			wantPackets(t, s.Again(), 0, want...)
		}
	}
}

// inUse is how much memory is in use.
func inUse() uint64 {
	runtime.GC()
	runtime.GC()
	var m runtime.MemStats
	runtime.ReadMemStats(&m)
	return m.HeapAlloc
}

// What left the queue, what was refused, told, handed to Take and answered isn't held any more.
func TestLetsGo(t *testing.T) {
	const size, room = 1 << 18, 16 << 18
	s, r := newSender(t, 64), link.NewReceiver()
	from := inUse()
	given := make([]byte, size)
	for range 2 {
		for range 201 {
			s.Send(given)
		}
		for range 5 {
			for _, p := range append(s.Fresh(), s.Again()...) {
				r.Take(p)
			}
			s.Ack(r.Want() - 1)
		}
		wantLen(t, s, 1)
		if now := inUse(); now > from+room {
			t.Error(from, "bytes were in use, now", now)
		}
	}
	runtime.KeepAlive(s)
	runtime.KeepAlive(r)
}
