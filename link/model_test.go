package link_test

import (
	"fmt"
	"math/rand"
	"slices"
	"strings"
	"testing"

	"plover/api"
	"plover/link"
)

// body is a text of so many bytes, of all sorts.
func body(n int) string {
	b := make([]byte, n)
	for i := range b {
		b[i] = byte(i*i/7 + 5*i + n)
	}
	return string(b)
}

// data is what is sent as the number n: each one another text, now and then of no bytes, or of many.
func data(n int) string {
	switch n % 13 {
	case 4:
		return ""
	case 9:
		return fmt.Sprint(n) + body(300)
	}
	return fmt.Sprint(n)
}

// show is some packets, in few words.
func show(l []api.Packet) string {
	var s strings.Builder
	for _, p := range l[:min(len(l), 70)] {
		fmt.Fprintf(&s, "%d:%.20q ", p.Seq, p.Data)
	}
	return fmt.Sprint(s.String(), "of ", len(l))
}

// one is one of those that were sent, with what became of it.
type one struct {
	data       string
	told, gone bool
}

// both is a sender, and a plain list of all that was sent by it.
type both struct {
	t      testing.TB
	window int
	s      *link.Sender
	all    []one
}

func newBoth(t testing.TB, window int) *both {
	t.Helper()
	s, err := link.NewSender(window)
	if err != nil || s == nil {
		t.Fatal(window, s, err)
	}
	return &both{t: t, window: window, s: s}
}

// queue are the numbers of those that haven't gone.
func (b *both) queue() []int {
	var l []int
	for n, x := range b.all {
		if !x.gone {
			l = append(l, n)
		}
	}
	return l
}

// next is the first number that wasn't told.
func (b *both) next() int {
	for n, x := range b.all {
		if !x.told {
			return n
		}
	}
	return len(b.all)
}

// first is the number of the queue's first one, or of the one that will be.
func (b *both) first() int {
	if q := b.queue(); len(q) > 0 {
		return q[0]
	}
	return len(b.all)
}

// send sends, and fails if the answer, or how many there are, isn't the list's.
func (b *both) send(data string) error {
	b.t.Helper()
	var want error
	if len(b.queue()) == 200 {
		want = api.ErrFull
	} else {
		b.all = append(b.all, one{data: data})
	}
	given := []byte(data)
	err := b.s.Send(given)
	if err != want || string(given) != data {
		b.t.Fatalf("send of %.20q: %v, not %v; it is now %.20q", data, err, want, given)
	}
	spoil(given)
	b.len()
	return err
}

// sendMany sends so many more.
func (b *both) sendMany(many int) {
	b.t.Helper()
	for range many {
		if err := b.send(data(len(b.all))); err != nil {
			b.t.Fatal(err)
		}
	}
}

// within are those within the window that were told, or weren't.
func (b *both) within(told bool) []int {
	var l []int
	q := b.queue()
	for _, n := range q[:min(len(q), b.window)] {
		if b.all[n].told == told {
			l = append(l, n)
		}
	}
	return l
}

// want fails if packets aren't those of the numbers. Then it spoils them.
func (b *both) want(what string, l []api.Packet, numbers []int) {
	b.t.Helper()
	if len(l) != len(numbers) {
		b.t.Fatalf("%s: %s, not those of %v", what, show(l), numbers)
	}
	for i, n := range numbers {
		if l[i].Seq != uint64(n) || string(l[i].Data) != b.all[n].data {
			b.t.Fatalf("%s: %s, not those of %v, with %.20q", what, show(l), numbers, b.all[n].data)
		}
	}
	spoilPackets(l)
	b.len()
}

// fresh asks for fresh ones, and fails if they aren't the list's. It answers their numbers.
func (b *both) fresh() []int {
	b.t.Helper()
	numbers := b.within(false)
	b.want("fresh", b.s.Fresh(), numbers)
	for _, n := range numbers {
		b.all[n].told = true
	}
	return numbers
}

// again asks for those that were told, and fails if they aren't the list's. It answers their numbers.
func (b *both) again() []int {
	b.t.Helper()
	numbers := b.within(true)
	b.want("again", b.s.Again(), numbers)
	return numbers
}

// ack acknowledges, and fails if how many there are isn't the list's.
func (b *both) ack(n uint64) {
	b.t.Helper()
	if n <= uint64(b.next()) {
		for i := range b.all[:n] {
			b.all[i].gone = true
		}
	}
	b.s.Ack(n)
	b.len()
}

// len fails if how many there are isn't the list's.
func (b *both) len() {
	b.t.Helper()
	if got, want := b.s.Len(), len(b.queue()); got != want {
		b.t.Fatalf("%d in the queue, not %d", got, want)
	}
}

// drain tells and acknowledges till nothing is left, and fails if that isn't as the list has it.
func (b *both) drain() {
	b.t.Helper()
	for len(b.queue()) > 0 {
		b.again()
		b.fresh()
		b.again()
		b.ack(uint64(b.next()))
	}
	b.fresh()
	b.again()
}

// acks are numbers to acknowledge: about those that count, far ones, and such as have their last bits.
func (b *both) acks() []uint64 {
	l := []uint64{0, 1, 1<<64 - 1, 1 << 63}
	for _, n := range []int{b.first(), b.next(), len(b.all), b.first() + b.window} {
		for _, by := range []int{-2, -1, 0, 1, 2} {
			l = append(l, uint64(max(n+by, 0)))
		}
		l = append(l, uint64(n)+1<<8, uint64(n)+1<<16, uint64(n)+1<<31, uint64(n)+1<<32, uint64(n)+1<<63)
	}
	slices.Sort(l)
	return slices.Compact(l)
}

// P15.1: all that can be done in five steps, with few data and with some more, held against the list.
func TestAllShort(t *testing.T) {
	for _, window := range []int{1, 2, 3, 64} {
		for _, ahead := range []int{0, 4} {
			for run := range 7 * 7 * 7 * 7 * 7 {
				b := newBoth(t, window)
				b.sendMany(ahead)
				for range 5 {
					b.step(run % 7)
					run /= 7
				}
				b.drain()
			}
		}
	}
}

// step is one of seven steps.
func (b *both) step(which int) {
	b.t.Helper()
	switch which {
	case 0:
		b.send(data(len(b.all)))
	case 1:
		b.fresh()
	case 2:
		b.again()
	case 3:
		b.ack(uint64(b.first() + 1))
	case 4:
		b.ack(uint64(b.next()))
	case 5:
		b.ack(uint64(b.next() + 1))
	case 6:
		b.ack(uint64(b.first()) / 2)
	}
}

// P15.1: drawn steps of all windows, with queues that fill up and empty.
func TestDrawn(t *testing.T) {
	for window := 1; window <= 64; window++ {
		r := rand.New(rand.NewSource(int64(window)))
		b := newBoth(t, window)
		full, empty := 0, 0
		for i := range 600 {
			// Times of emptying go with times of filling.
			fill := 1 + 8*(i/120%2)
			switch k := r.Intn(14); {
			case k < fill:
				for range 1 + r.Intn(20) {
					if b.send(data(len(b.all))) != nil {
						full++
						break
					}
				}
			case k < 11:
				b.fresh()
				b.ack(uint64(b.first() + r.Intn(b.next()-b.first()+1)))
			case k < 12:
				b.again()
			default:
				l := b.acks()
				b.ack(l[r.Intn(len(l))])
			}
			if len(b.queue()) == 0 {
				empty++
			}
		}
		b.drain()
		if window > 3 && (full == 0 || empty == 0) {
			t.Error(window, "full", full, "times, empty", empty)
		}
	}
}

// P15.1: each ack that may be of note, at each state that a few windows and queues can have.
func TestEachAck(t *testing.T) {
	for _, window := range []int{1, 2, 5, 64} {
		for _, gone := range []int{0, 1, 3, 70} {
			for _, more := range []int{0, 1, 2, 6, 64, 65, 200} {
				for _, told := range []bool{false, true} {
					state := func() *both {
						b := newBoth(t, window)
						b.sendMany(gone)
						b.drain()
						b.sendMany(more)
						if told {
							b.fresh()
						}
						return b
					}
					for _, n := range state().acks() {
						b := state()
						b.ack(n)
						b.again()
						b.fresh()
						b.again()
						b.ack(n)
						b.again()
						b.ack(uint64(b.next()))
						b.fresh()
					}
				}
			}
		}
	}
}
