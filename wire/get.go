package wire

import "plover/api"

// Get reads one: P10.2.
func Get(b []byte) (api.Msg, error) {
	r := &reader{left: b}
	m := r.message()
	if len(r.left) > 0 || !May(m) {
		r.fail(api.ErrForm)
	}
	if r.err != nil {
		return api.Msg{}, r.err
	}
	return m, nil
}

// reader reads the parts of a message, from the first byte that is left on.
//
// It keeps the first fault: all that is read behind that is zero, or no text, and takes no byte.
type reader struct {
	left []byte
	err  error
}

// fail keeps a fault, if it is the first one.
func (r *reader) fail(err error) {
	if r.err == nil {
		r.err = err
	}
}

// message reads a message. Of kind 0 it reads no more: such a one may not be, whatever is left.
func (r *reader) message() api.Msg {
	m := api.Msg{Kind: r.whole(api.MNotify)}
	switch m.Kind {
	case api.MInstall:
		m.Sub = r.whole(maxNumber)
		m.Version = r.whole(maxNumber)
		m.Home = r.whole(maxNumber)
		m.Rect = r.rect()
		m.Filter = r.text(api.MaxFilter)
	case api.MRetire:
		m.Sub = r.whole(maxNumber)
		m.Version = r.whole(maxNumber)
	case api.MEvent:
		m.Event = r.event()
	case api.MNotify:
		m.Sub = r.whole(maxNumber)
		m.Event = r.event()
	}
	return m
}

func (r *reader) rect() api.Rect {
	var box api.Rect
	box.X1 = r.signed()
	box.Y1 = r.signed()
	box.X2 = r.signed()
	box.Y2 = r.signed()
	return box
}

func (r *reader) event() api.Event {
	var e api.Event
	e.Pub = r.whole(maxNumber)
	e.Seq = uint32(r.number(maxSeq))
	e.At.X = r.signed()
	e.At.Y = r.signed()
	for range r.whole(api.MaxAttrs) {
		e.Attrs = append(e.Attrs, r.attr())
	}
	return e
}

func (r *reader) attr() api.Attr {
	a := api.Attr{Name: r.text(api.MaxText)}
	a.Text = r.whole(1) == 1
	if a.Text {
		a.S = r.text(api.MaxText)
	} else {
		a.N = r.signed()
	}
	return a
}

// text reads a text of at most so many bytes.
func (r *reader) text(most int) string {
	size := r.whole(most)
	if size > len(r.left) {
		r.fail(api.ErrTrunc)
		return ""
	}
	s := string(r.left[:size])
	r.left = r.left[size:]
	return s
}

// signed reads a number that has a sign.
func (r *reader) signed() int64 {
	n := r.number(1<<64 - 1)
	return int64(n>>1) ^ -int64(n&1)
}

// whole reads a number without a sign, of 31 bits or fewer.
func (r *reader) whole(most int) int { return int(r.number(uint64(most))) }

// number reads a number's bytes, of a number at most so great.
func (r *reader) number(most uint64) uint64 {
	if r.err != nil {
		return 0
	}
	n, size, err := first(r.left)
	if err == nil && n > most {
		err = api.ErrForm
	}
	if err != nil {
		r.fail(err)
		return 0
	}
	r.left = r.left[size:]
	return n
}

// first is the number that bytes begin with, and how many of them are its own.
func first(b []byte) (uint64, int, error) {
	n := uint64(0)
	for i, c := range b {
		// Nine bytes have 63 bits, so a tenth one has the last bit, and nothing else.
		if i == 9 && c != 1 || i > 0 && c == 0 {
			return 0, 0, api.ErrForm
		}
		n |= uint64(c&127) << (7 * i)
		if c < 128 {
			return n, i + 1, nil
		}
	}
	return 0, 0, api.ErrTrunc
}
