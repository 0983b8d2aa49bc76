// Package copies makes parts of programs anew, so that what a layer answers shares no memory with what it was handed in.
package copies

import (
	"slices"

	"beaconry/api"
)

// Rule is of rules that are right alone: those end.
func Rule(r api.Rule) api.Rule {
	r.Args = each(r.Args, term)
	r.Body = each(r.Body, literal)
	return r
}

func literal(l api.Literal) api.Literal {
	l.Args = each(l.Args, term)
	return l
}

func term(t api.Term) api.Term {
	t.Value = value(t.Value)
	t.Args = each(t.Args, term)
	return t
}

func value(v api.Value) api.Value {
	v.List = each(v.List, value)
	return v
}

// each is a list of copies, in memory of its own.
func each[T any](l []T, copied func(T) T) []T {
	out := slices.Clone(l)
	for i, x := range out {
		out[i] = copied(x)
	}
	return out
}
