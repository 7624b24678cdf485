package filter

import (
	"plover/api"
	"plover/token"
)

// Read reads one: P7.2.
func Read(s string) (api.Filter, error) {
	l, err := token.Cut(s)
	if err != nil {
		return api.Filter{}, err
	}
	r := &reader{left: l}
	f, ok := r.or()
	if !ok || len(r.left) > 0 {
		return api.Filter{}, api.ErrParse
	}
	// The grammar knows no limits, and all else that it reads may be.
	if !May(f) {
		return api.Filter{}, api.ErrLarge
	}
	return f, nil
}

// reader reads tokens, from the first one that is left on. Each of its methods that read a part of a filter has a name
// of the grammar's, and answers false, if that part isn't there.
type reader struct{ left []token.Token }

// next takes the next token: one of no kind, if none is left.
func (r *reader) next() token.Token {
	if len(r.left) == 0 {
		return token.Token{}
	}
	t := r.left[0]
	r.left = r.left[1:]
	return t
}

// take takes the next token, if it is just that word or sign.
func (r *reader) take(kind int, s string) bool {
	if len(r.left) == 0 || r.left[0].Kind != kind || r.left[0].S != s {
		return false
	}
	r.left = r.left[1:]
	return true
}

func (r *reader) or() (api.Filter, bool)  { return r.joined(api.FOr, "or", r.and) }
func (r *reader) and() (api.Filter, bool) { return r.joined(api.FAnd, "and", r.not) }

// joined is one part, or a filter of a kind, of parts with a word between them.
func (r *reader) joined(kind int, word string, part func() (api.Filter, bool)) (api.Filter, bool) {
	f, ok := part()
	if !ok {
		return api.Filter{}, false
	}
	for r.take(token.Word, word) {
		more, ok := part()
		if !ok {
			return api.Filter{}, false
		}
		f = api.Filter{Kind: kind, L: append(parts(kind, f), parts(kind, more)...)}
	}
	return f, true
}

// parts is what a filter gives to one of a kind that it is a part of: its own parts, if it is of that kind, too.
func parts(kind int, f api.Filter) []api.Filter {
	if f.Kind == kind {
		return f.L
	}
	return []api.Filter{f}
}

func (r *reader) not() (api.Filter, bool) {
	if r.take(token.Word, "not") {
		f, ok := r.not()
		return api.Filter{Kind: api.FNot, L: []api.Filter{f}}, ok
	}
	if r.take(token.Sign, "(") {
		f, ok := r.or()
		return f, ok && r.take(token.Sign, ")")
	}
	if r.take(token.Word, "true") {
		return api.Filter{Kind: api.FTrue}, true
	}
	return r.leaf()
}

// leaf is a filter that begins with a name.
func (r *reader) leaf() (api.Filter, bool) {
	name := r.next()
	if name.Kind != token.Name {
		return api.Filter{}, false
	}
	if r.take(token.Sign, "^=") {
		v, ok := r.value()
		return api.Filter{Kind: api.FPre, Name: name.S, Vals: []api.Attr{v}}, ok && v.Text
	}
	if r.take(token.Word, "in") {
		l, ok := r.values()
		return api.Filter{Kind: api.FIn, Name: name.S, Vals: l}, ok && ofOneSort(l)
	}
	sign := r.next()
	if sign.Kind != token.Sign || !isOp(sign.S) {
		return api.Filter{}, false
	}
	v, ok := r.value()
	return api.Filter{Kind: api.FCmp, Name: name.S, Op: sign.S, Vals: []api.Attr{v}}, ok
}

// values is a list of values, in brackets.
func (r *reader) values() ([]api.Attr, bool) {
	if !r.take(token.Sign, "(") {
		return nil, false
	}
	var l []api.Attr
	for {
		v, ok := r.value()
		if !ok {
			return nil, false
		}
		l = append(l, v)
		if !r.take(token.Sign, ",") {
			return l, r.take(token.Sign, ")")
		}
	}
}

func (r *reader) value() (api.Attr, bool) {
	switch t := r.next(); t.Kind {
	case token.Number:
		return api.Attr{N: t.N}, true
	case token.Text:
		return api.Attr{Text: true, S: t.S}, true
	}
	return api.Attr{}, false
}
