package printer

import (
	"beaconry/api"
	"beaconry/builtin"
	"beaconry/value"
)

// declare is the word that a relation is declared by, which no relation and no label is named.
const declare = "materialize"

// Right tells whether a program may be.
func Right(p api.Program) bool {
	return rightList(p.Decls, 0, api.MaxRules, rightDecl) &&
		rightList(p.Facts, 0, api.MaxRules, rightTuple) &&
		rightList(p.Rules, 0, api.MaxRules, rightRule)
}

// rightList counts ahead of looking, so that a list that is too long takes no time.
func rightList[T any](l []T, least, most int, right func(T) bool) bool {
	if len(l) < least || len(l) > most {
		return false
	}
	for _, x := range l {
		if !right(x) {
			return false
		}
	}
	return true
}

func rightDecl(d api.Decl) bool {
	return relation(d.Name) && d.Arity >= 1 && d.Arity <= api.MaxArity
}

func rightTuple(t api.Tuple) bool {
	return relation(t.Name) && rightList(t.Args, 1, api.MaxArity, value.Right) && t.Args[0].Kind == api.Addr
}

func rightRule(r api.Rule) bool {
	return relation(r.Label) && rightAtom(r.Head, r.Args) && rightAgg(r) && rightList(r.Body, 1, api.MaxBody, rightLiteral)
}

func rightAtom(name string, args []api.Term) bool {
	return relation(name) && rightList(args, 1, api.MaxArity, rightTerm) && place(args[0])
}

// place tells whether a right term may tell at which node a tuple is.
func place(t api.Term) bool {
	return t.Kind == api.TermVar || t.Kind == api.TermValue && t.Value.Kind == api.Addr
}

// rightAgg lets no aggregate be at the first argument, which is the place.
func rightAgg(r api.Rule) bool {
	switch r.Agg {
	case "":
		return r.At == 0
	case "min", "max", "count":
		return r.At >= 1 && r.At < len(r.Args) && r.Args[r.At].Kind == api.TermVar
	}
	return false
}

func rightLiteral(l api.Literal) bool {
	switch l.Kind {
	case api.LitAtom, api.LitNot:
		return rightAtom(l.Name, l.Args)
	case api.LitTest:
		return comparing(l.Name) && rightList(l.Args, 2, 2, rightTerm)
	case api.LitAssign:
		return variable(l.Name) && rightList(l.Args, 1, 1, rightTerm)
	}
	return false
}

func rightTerm(t api.Term) bool { return rightWithin(t, api.MaxTerm) }

// rightWithin lets terms be so deep at most, so that it ends soon, however deep they are.
func rightWithin(t api.Term, depth int) bool {
	if depth < 1 {
		return false
	}
	switch t.Kind {
	case api.TermVar:
		return variable(t.Name) && nothing(t.Value) && len(t.Args) == 0
	case api.TermValue:
		return t.Name == "" && rightValue(t.Value) && len(t.Args) == 0
	case api.TermCall:
		// What is no function has an Arity below 0, which no list's length is.
		return nothing(t.Value) && rightParts(t.Args, builtin.Arity(t.Name), depth-1)
	case api.TermOp:
		return reckoning(t.Name) && nothing(t.Value) && rightParts(t.Args, 2, depth-1)
	}
	return false
}

func rightParts(l []api.Term, n, depth int) bool {
	return rightList(l, n, n, func(t api.Term) bool { return rightWithin(t, depth) })
}

// rightValue refuses an address that would be read as a function; within a list it can't be.
func rightValue(v api.Value) bool {
	return value.Right(v) && !(v.Kind == api.Addr && function(v.Text))
}

func nothing(v api.Value) bool {
	return v.Kind == 0 && v.Int == 0 && v.Text == "" && len(v.List) == 0
}

func relation(s string) bool { return value.Name(s) && !function(s) && s != declare }

func function(s string) bool { return builtin.Arity(s) >= 0 }

func variable(s string) bool {
	if len(s) < 1 || len(s) > api.MaxName {
		return false
	}
	// Bytes beyond 127 come as runes that no range here has, one alone or several at once.
	for i, r := range s {
		if !great(r) && (i == 0 || !small(r) && !digit(r) && r != '_') {
			return false
		}
	}
	return true
}

func great(r rune) bool { return r >= 'A' && r <= 'Z' }

func small(r rune) bool { return r >= 'a' && r <= 'z' }

func digit(r rune) bool { return r >= '0' && r <= '9' }

func reckoning(op string) bool {
	switch op {
	case "+", "-", "*":
		return true
	}
	return false
}

func comparing(op string) bool {
	switch op {
	case "==", "!=", "<", "<=", ">", ">=":
		return true
	}
	return false
}
