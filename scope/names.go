package scope

import (
	"iter"

	"beaconry/api"
)

// names are those of variables, or of relations.
type names map[string]struct{}

func (n names) has(name string) bool {
	_, ok := n[name]
	return ok
}

func (n names) add(name string) { n[name] = struct{}{} }

// all tells whether the names of all variables in terms are there.
func (n names) all(terms []api.Term) bool {
	for name := range variables(terms) {
		if !n.has(name) {
			return false
		}
	}
	return true
}

// goOn goes from the variables that are bound at a literal to those bound behind it; what it adds counts for nothing beside an error.
func (n names) goOn(l api.Literal) api.Errno {
	if l.Kind == api.LitAtom {
		// Ahead of asking, since what stands within an argument may be bound by another one of the same atom.
		n.addArguments(l.Args)
	}
	if !n.all(l.Args) {
		return api.ErrBound
	}
	if l.Kind == api.LitAssign {
		if n.has(l.Name) {
			return api.ErrAgain
		}
		n.add(l.Name)
	}
	return api.OK
}

// addArguments leaves out what stands within an argument: that is not matched, but reckoned.
func (n names) addArguments(args []api.Term) {
	for _, t := range args {
		if t.Kind == api.TermVar {
			n.add(t.Name)
		}
	}
}

// variables are those in terms, at whatever depth, as often as they stand there.
func variables(terms []api.Term) iter.Seq[string] {
	return func(yield func(string) bool) { walk(terms, yield) }
}

// walk tells whether it came to the end. It hands yield down, so that a variable costs the same at each depth.
func walk(terms []api.Term, yield func(string) bool) bool {
	for _, t := range terms {
		if t.Kind == api.TermVar && !yield(t.Name) || !walk(t.Args, yield) {
			return false
		}
	}
	return true
}
