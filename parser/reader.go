package parser

import (
	"slices"

	"beaconry/api"
)

// reader goes through a text's tokens. Once one may not stand where it does, the reader sees none any more: whatever is still to be read ends at once, and the first fault's place stays.
type reader struct {
	rest  []api.Token // the next one first
	wrong api.Pos     // where the token is that may not stand there; 0, 0, while there is none
}

// token is the i-th one of those that are still to be read, from 0 on; of no kind, if there is none such.
func (r *reader) token(i int) api.Token {
	if i >= len(r.rest) {
		return api.Token{}
	}
	return r.rest[i]
}

func (r *reader) refuse() {
	if len(r.rest) > 0 {
		r.wrong, r.rest = r.rest[0].Pos, nil
	}
}

// word goes on behind a token of that kind; no other one may stand there.
func (r *reader) word(kind int) api.Token {
	t := r.token(0)
	if t.Kind != kind {
		r.refuse()
		return api.Token{}
	}
	r.rest = r.rest[1:]
	return t
}

// sign goes on behind one of those signs, and tells which; no other token may stand there.
func (r *reader) sign(either ...string) string {
	if !slices.Contains(either, r.token(0).Text) {
		r.refuse()
	}
	return r.word(api.TokSign).Text
}

// skip goes on behind that sign, if it is next.
func (r *reader) skip(sign string) bool {
	next := is(r.token(0), sign)
	if next {
		r.rest = r.rest[1:]
	}
	return next
}

// is asks for the kind, too, since what stands between quotes may look like a sign.
func is(t api.Token, sign string) bool { return t.Kind == api.TokSign && t.Text == sign }

// list reads parts with commas between, one at least.
func list[T any](r *reader, part func() T) []T {
	out := []T{part()}
	for r.skip(",") {
		out = append(out, part())
	}
	return out
}

// upTo reads parts, or none, up to the sign that ends them.
func upTo[T any](r *reader, end string, part func() T) []T {
	if r.skip(end) {
		return nil
	}
	out := list(r, part)
	r.sign(end)
	return out
}

// placed reads a relation's arguments, the first one being the place, in brackets.
func placed[T any](r *reader, part func() T) []T {
	r.sign("(")
	r.sign("@")
	out := list(r, part)
	r.sign(")")
	return out
}
