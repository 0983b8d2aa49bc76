// Package copies makes parts of programs, and values, anew, so that what a layer answers shares no memory with what it was handed in.
package copies

import (
	"slices"

	"beaconry/api"
)

// Rule is of rules that are right alone: those end.
func Rule(r api.Rule) api.Rule {
	r.Args = each(r.Args, term)
	r.Body = each(r.Body, literal)
	return r
}

// Binds is of variables' values, right ones or not.
func Binds(l []api.Bind) []api.Bind { return each(l, bind) }

// Rows are of rows whose values need not be right, either.
func Rows(l []api.Row) []api.Row { return each(l, row) }

// Value is of any value, whatever its Kind is: a wrong one may have a list beside what it is.
func Value(v api.Value) api.Value {
	v.List = each(v.List, Value)
	return v
}

func bind(b api.Bind) api.Bind {
	b.Value = Value(b.Value)
	return b
}

func row(r api.Row) api.Row {
	r.Args = each(r.Args, Value)
	return r
}

func literal(l api.Literal) api.Literal {
	l.Args = each(l.Args, term)
	return l
}

func term(t api.Term) api.Term {
	t.Value = Value(t.Value)
	t.Args = each(t.Args, term)
	return t
}

// each is a list of copies, in memory of its own.
func each[T any](l []T, copied func(T) T) []T {
	out := slices.Clone(l)
	for i, x := range out {
		out[i] = copied(x)
	}
	return out
}
