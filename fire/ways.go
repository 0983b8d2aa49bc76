package fire

import (
	"iter"
	"slices"
	"sort"

	"beaconry/api"
	"beaconry/bind"
	"beaconry/builtin"
)

// way is how far one has come through a body: what is bound, and up to when all lasts that one came by.
type way struct {
	env   []api.Bind
	stamp int
}

// known are merged rows; they are read alone.
type known []api.Row

// ways are those to the end of a body, from w on.
func (k known) ways(body []api.Literal, w way) iter.Seq[way] {
	return func(yield func(way) bool) {
		at := w
		for i, l := range body {
			next := k.on(l, at)
			if len(next) == 0 {
				return
			}
			// The last one goes on here: calls stand within one another only where ways part, however long a body is.
			last := len(next) - 1
			for _, other := range next[:last] {
				for end := range k.ways(body[i+1:], other) {
					if !yield(end) {
						return
					}
				}
			}
			at = next[last]
		}
		yield(at)
	}
}

// on are the ways past a literal. There is none past what is no literal.
func (k known) on(l api.Literal, w way) []way {
	switch l.Kind {
	case api.LitAtom:
		return k.matches(l, w)
	case api.LitNot:
		return w.onlyIf(!k.has(l, w))
	case api.LitTest:
		return w.onlyIf(w.holds(l))
	case api.LitAssign:
		return w.assigned(l)
	}
	return nil
}

func (k known) matches(l api.Literal, w way) []way {
	var out []way
	for _, row := range k.named(l.Name) {
		if env, ok := bind.Match(l.Args, row.Args, w.env); ok {
			out = append(out, way{env, min(w.stamp, row.Stamp)})
		}
	}
	return out
}

func (k known) has(l api.Literal, w way) bool {
	return slices.ContainsFunc(k.named(l.Name), func(row api.Row) bool {
		_, ok := bind.Match(l.Args, row.Args, w.env)
		return ok
	})
}

// named are a relation's rows, which stand together.
func (k known) named(name string) known {
	from := sort.Search(len(k), func(i int) bool { return k[i].Name >= name })
	to := sort.Search(len(k), func(i int) bool { return k[i].Name > name })
	return k[from:to]
}

func (w way) onlyIf(is bool) []way {
	if !is {
		return nil
	}
	return []way{w}
}

func (w way) holds(l api.Literal) bool {
	v, ok := w.values(l.Args)
	return ok && len(v) == 2 && builtin.Test(l.Name, v[0], v[1])
}

func (w way) assigned(l api.Literal) []way {
	v, ok := w.values(l.Args)
	if _, had := bind.Lookup(w.env, l.Name); had || !ok || len(v) != 1 {
		return nil
	}
	// Ways part by Match alone, which makes each a list of its own: the room behind env is this way's.
	return []way{{append(w.env, api.Bind{Name: l.Name, Value: v[0]}), w.stamp}}
}

// head is the row that follows; false: an argument has no value.
func (w way) head(r api.Rule) (api.Row, bool) {
	v, ok := w.values(r.Args)
	return api.Row{Name: r.Head, Args: v, Stamp: w.stamp}, ok
}

// values are those of terms; false: one has none.
func (w way) values(l []api.Term) ([]api.Value, bool) {
	out := make([]api.Value, 0, len(l))
	for _, t := range l {
		v, ok := bind.Eval(t, w.env)
		if !ok {
			return nil, false
		}
		out = append(out, v)
	}
	return out, true
}
