package bind

import (
	"slices"

	"beaconry/api"
	"beaconry/builtin"
	"beaconry/value"
)

// binds are variables' values. What their methods answer may share memory with what they were handed in.
type binds []api.Bind

func (b binds) lookup(name string) (api.Value, bool) {
	for _, x := range b {
		if x.Name == name {
			return x.Value, true
		}
	}
	return api.Value{}, false
}

func (b binds) eval(t api.Term) (api.Value, bool) {
	tell := b.teller(t.Kind)
	return tell(t)
}

// teller is what tells the value of terms of a kind.
func (b binds) teller(kind int) func(api.Term) (api.Value, bool) {
	switch kind {
	case api.TermVar:
		return b.variable
	case api.TermValue:
		return b.value
	case api.TermCall:
		return b.call
	case api.TermOp:
		return b.op
	}
	return b.nothing
}

func (b binds) variable(t api.Term) (api.Value, bool) { return b.lookup(t.Name) }

func (b binds) value(t api.Term) (api.Value, bool) { return t.Value, true }

func (b binds) call(t api.Term) (api.Value, bool) {
	args, ok := b.evalAll(t.Args)
	if !ok {
		return api.Value{}, false
	}
	return builtin.Call(t.Name, args)
}

func (b binds) op(t api.Term) (api.Value, bool) {
	args, ok := b.evalAll(t.Args)
	if !ok || len(args) != 2 {
		return api.Value{}, false
	}
	return builtin.Op(t.Name, args[0], args[1])
}

func (b binds) nothing(api.Term) (api.Value, bool) { return api.Value{}, false }

// evalAll are all terms' values; false: one has none.
func (b binds) evalAll(l []api.Term) ([]api.Value, bool) {
	out := make([]api.Value, 0, len(l))
	for _, t := range l {
		v, ok := b.eval(t)
		if !ok {
			return nil, false
		}
		out = append(out, v)
	}
	return out, true
}

// with has those of args that are variables bound, too, where they were not.
func (b binds) with(args []api.Term, l []api.Value) binds {
	// The room behind what was handed in is not to be written into.
	out := slices.Clip(b)
	for i, t := range args {
		if t.Kind != api.TermVar {
			continue
		}
		if _, ok := out.lookup(t.Name); !ok {
			out = append(out, api.Bind{Name: t.Name, Value: l[i]})
		}
	}
	return out
}

// fit tells whether each term is its value. It is asked behind with, since a term may need a variable that stands behind it.
func (b binds) fit(args []api.Term, l []api.Value) bool {
	for i, t := range args {
		if v, ok := b.eval(t); !ok || value.Compare(v, l[i]) != 0 {
			return false
		}
	}
	return true
}
