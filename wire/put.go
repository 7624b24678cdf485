package wire

import "plover/api"

// Put writes one: P10.1.
func Put(m api.Msg) ([]byte, error) {
	if !May(m) {
		return nil, api.ErrArg
	}
	w := &writer{}
	w.message(m)
	return w.b, nil
}

// writer writes the parts of a message that may be, each behind those that stand there.
type writer struct{ b []byte }

func (w *writer) message(m api.Msg) {
	w.whole(m.Kind)
	switch m.Kind {
	case api.MInstall:
		w.whole(m.Sub)
		w.whole(m.Version)
		w.whole(m.Home)
		w.rect(m.Rect)
		w.text(m.Filter)
	case api.MRetire:
		w.whole(m.Sub)
		w.whole(m.Version)
	case api.MEvent:
		w.event(m.Event)
	case api.MNotify:
		w.whole(m.Sub)
		w.event(m.Event)
	}
}

func (w *writer) rect(r api.Rect) {
	w.signed(r.X1)
	w.signed(r.Y1)
	w.signed(r.X2)
	w.signed(r.Y2)
}

func (w *writer) event(e api.Event) {
	w.whole(e.Pub)
	w.number(uint64(e.Seq))
	w.signed(e.At.X)
	w.signed(e.At.Y)
	w.whole(len(e.Attrs))
	for _, a := range e.Attrs {
		w.attr(a)
	}
}

func (w *writer) attr(a api.Attr) {
	w.text(a.Name)
	if a.Text {
		w.whole(1)
		w.text(a.S)
	} else {
		w.whole(0)
		w.signed(a.N)
	}
}

func (w *writer) text(s string) {
	w.whole(len(s))
	w.b = append(w.b, s...)
}

// signed writes a number that has a sign: each bit is turned about below 0, so that -2n - 1 never goes beyond 64 bits.
func (w *writer) signed(n int64) { w.number(uint64(n)<<1 ^ uint64(n>>63)) }

// whole writes a number that isn't below 0.
func (w *writer) whole(n int) { w.number(uint64(n)) }

func (w *writer) number(n uint64) {
	for n >= 128 {
		w.b = append(w.b, byte(n)|128)
		n >>= 7
	}
	w.b = append(w.b, byte(n))
}
