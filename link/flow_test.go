package link_test

import (
	"math/rand"
	"slices"
	"testing"

	"plover/api"
	"plover/link"
)

// flow is a sender and a receiver, packets and acknowledgements under way between them, and plain lists of what was sent and taken.
type flow struct {
	t     testing.TB
	r     *rand.Rand
	s     *link.Sender
	to    *link.Receiver
	under []api.Packet
	acks  []uint64
	sent  []string
	taken []string
	lost  int
	twice int
}

func newFlow(t testing.TB, window int, seed int64) *flow {
	t.Helper()
	s, err := link.NewSender(window)
	if err != nil {
		t.Fatal(err)
	}
	return &flow{t: t, r: rand.New(rand.NewSource(seed)), s: s, to: link.NewReceiver()}
}

// send sends as many more as there is room for, but at most so many.
func (f *flow) send(most int) {
	for range most {
		x := data(len(f.sent))
		if f.s.Send([]byte(x)) != nil {
			return
		}
		f.sent = append(f.sent, x)
	}
}

// arrive lets a packet come to the receiver, and fails if what is taken isn't the next one of those that were sent.
func (f *flow) arrive(p api.Packet) {
	f.t.Helper()
	b, is := f.to.Take(p)
	if !is && len(b) > 0 {
		f.t.Fatalf("%.20q isn't taken", b)
	}
	if is {
		n := len(f.taken)
		if n == len(f.sent) || string(b) != f.sent[n] {
			f.t.Fatalf("%.20q is taken as the number %d of %d", b, n, len(f.sent))
		}
		f.taken = append(f.taken, string(b))
	}
	if f.to.Want() != uint64(len(f.taken)) {
		f.t.Fatal(f.to.Want(), "is waited for, though so many were taken:", len(f.taken))
	}
}

// wander lets something happen to those under way: one is lost, comes twice, comes late, or comes.
func (f *flow) wander() {
	f.t.Helper()
	if len(f.under) > 0 {
		i := f.r.Intn(len(f.under))
		p := f.under[i]
		switch f.r.Intn(4) {
		case 0:
			f.under = slices.Delete(f.under, i, i+1)
			f.lost++
		case 1:
			f.arrive(p) // and stays under way
			f.twice++
		default:
			f.under = slices.Delete(f.under, i, i+1)
			f.arrive(p)
		}
	}
	if f.r.Intn(5) == 0 {
		f.acks = append(f.acks, f.to.Want())
	}
	if len(f.acks) > 0 && f.r.Intn(6) == 0 {
		f.s.Ack(f.acks[f.r.Intn(len(f.acks))])
	}
}

// step is one of what a sender can do, and what happens to packets under way.
func (f *flow) step() {
	f.t.Helper()
	switch f.r.Intn(12) {
	case 0:
		f.send(1 + f.r.Intn(30))
	case 1, 2:
		f.under = append(f.under, f.s.Fresh()...)
	case 3:
		f.under = append(f.under, f.s.Again()...)
	default:
		f.wander()
	}
	if len(f.under) > 300 {
		f.lost += len(f.under) - 100
		f.under = f.under[len(f.under)-100:]
	}
}

// orders are ways in which packets of one round can come.
func orders() []func(r *rand.Rand, l []api.Packet) []api.Packet {
	return []func(r *rand.Rand, l []api.Packet) []api.Packet{
		func(_ *rand.Rand, l []api.Packet) []api.Packet { return l },
		func(_ *rand.Rand, l []api.Packet) []api.Packet {
			slices.Reverse(l)
			return l
		},
		func(r *rand.Rand, l []api.Packet) []api.Packet {
			l = append(l, l...)
			r.Shuffle(len(l), func(i, j int) { l[i], l[j] = l[j], l[i] })
			return l
		},
	}
}

// finish goes as many rounds as there are data in the queue, and fails if not all is taken and gone then, or if what was under way is taken behind it.
func (f *flow) finish(order func(r *rand.Rand, l []api.Packet) []api.Packet, freshCome bool) {
	f.t.Helper()
	for range f.s.Len() {
		fresh := f.s.Fresh()
		if freshCome {
			fresh = order(f.r, fresh)
			for _, p := range fresh {
				f.arrive(p)
			}
		}
		for _, p := range order(f.r, f.s.Again()) {
			f.arrive(p)
		}
		f.s.Ack(f.to.Want())
	}
	if !slices.Equal(f.taken, f.sent) || f.s.Len() != 0 {
		f.t.Fatalf("%d of %d are taken, %d in the queue", len(f.taken), len(f.sent), f.s.Len())
	}
	for _, p := range f.under {
		f.arrive(p)
	}
	for _, n := range f.acks {
		f.s.Ack(n)
	}
	if len(f.taken) != len(f.sent) || f.s.Len() != 0 || len(f.s.Fresh()) > 0 || len(f.s.Again()) > 0 {
		f.t.Fatal(len(f.taken), "are taken, then, of", len(f.sent))
	}
}

// P15.4: drawn losses, doubles and orders, of all windows; then as many rounds as there are data.
func TestFlow(t *testing.T) {
	for window := 1; window <= 64; window++ {
		for k, order := range orders() {
			f := newFlow(t, window, int64(window*10+k))
			for range 3 {
				for range 1200 {
					f.step()
				}
				f.finish(order, window%2 == 0)
			}
			if f.lost < 100 || f.twice < 100 || len(f.sent) < 200 {
				t.Error(window, "only", f.lost, "were lost,", f.twice, "came twice, of", len(f.sent))
			}
		}
	}
}

// P15.4: queues of all sizes, with what is fresh lost each time, or come: as many rounds as there are data are enough, in whatever order Again's packets come.
func TestRounds(t *testing.T) {
	for _, window := range []int{1, 2, 5, 63, 64} {
		for _, n := range []int{0, 1, 2, 3, 4, 5, 6, 10, 11, 62, 63, 64, 65, 66, 127, 128, 129, 199, 200} {
			for k, order := range orders() {
				for _, come := range []bool{false, true} {
					f := newFlow(t, window, int64(n*10+k))
					f.send(n)
					f.finish(order, come)
					if len(f.sent) != n {
						t.Fatal(window, n, len(f.sent))
					}
				}
			}
		}
	}
}

// P15.4: how many rounds it takes shows the window: so many go in each, if nothing is lost, and one alone, if they come turned about.
func TestRoundsCounted(t *testing.T) {
	for window := 1; window <= 64; window++ {
		for _, n := range []int{1, 2, 63, 64, 65, 199, 200} {
			for k, want := range []int{(n + window - 1) / window, n} {
				f := newFlow(t, window, 0)
				f.send(n)
				rounds := 0
				for f.s.Len() > 0 && rounds <= n {
					f.s.Fresh()
					for _, p := range orders()[k](f.r, f.s.Again()) {
						f.arrive(p)
					}
					f.s.Ack(f.to.Want())
					rounds++
				}
				if rounds != want {
					t.Error(window, n, k, rounds, "rounds, not", want)
				}
			}
		}
	}
}

// P15.4: acknowledgements that are lost, so that the receiver is ahead of the sender: what comes once more isn't taken once more.
func TestLostAcks(t *testing.T) {
	for _, window := range []int{1, 2, 5, 64} {
		f := newFlow(t, window, 0)
		f.send(150)
		for range 20 {
			for _, p := range append(f.s.Fresh(), f.s.Again()...) {
				f.arrive(p)
			}
			if len(f.taken) != window || f.s.Len() != 150 {
				t.Fatal(window, len(f.taken), f.s.Len())
			}
		}
		f.finish(orders()[0], false)
	}
}

// P15.4, P15.1: a sender, its list and a receiver by drawn bytes.
func FuzzAll(f *testing.F) {
	f.Add(byte(1), []byte{0, 0, 1, 2, 16, 5, 16, 3, 1, 16})
	f.Add(byte(63), []byte{0, 1, 4, 60, 5, 250, 6, 7, 255, 3, 1, 2})
	f.Fuzz(func(t *testing.T, window byte, steps []byte) {
		b, to := newBoth(t, int(window%64)+1), link.NewReceiver()
		var under []api.Packet
		taken := 0
		keep := func(numbers []int) {
			for _, n := range numbers {
				under = append(under, api.Packet{Seq: uint64(n), Data: []byte(b.all[n].data)})
			}
		}
		for _, x := range steps[:min(len(steps), 400)] {
			switch k := int(x / 8); x % 8 {
			case 0:
				b.send(body(k))
			case 1, 2:
				keep(b.fresh())
			case 3:
				keep(b.again())
			case 4:
				l := b.acks()
				b.ack(l[k%len(l)])
			case 5:
				b.ack(to.Want())
			default:
				if len(under) == 0 {
					continue
				}
				p := under[(len(under)-1)*k/31]
				got, is := to.Take(p)
				if is != (p.Seq == uint64(taken)) || is && string(got) != b.all[taken].data {
					t.Fatalf("%d: %.20q, %v", p.Seq, got, is)
				}
				if is {
					taken++
				}
			}
		}
		b.again()
		b.drain()
	})
}
