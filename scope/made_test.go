package scope

import (
	"regexp"
	"strings"
	"testing"

	"beaconry/api"
	"beaconry/parser"
	"beaconry/printer"
)

const declared = "materialize(p,2). materialize(q,1). materialize(l,3).\n"

func parsed(t *testing.T, s string) api.Program {
	t.Helper()
	p, e, at := parser.Parse(s)
	if e != api.OK {
		t.Fatalf("%s: %d at %d", s, e, at)
	}
	return p
}

func term(t *testing.T, s string) api.Term {
	t.Helper()
	return parsed(t, "r p(@S,"+s+") :- q(@S).").Rules[0].Args[1]
}

func v(name string) api.Term { return api.Term{Kind: api.TermVar, Name: name} }

func op(a, b api.Term) api.Term {
	return api.Term{Kind: api.TermOp, Name: "+", Args: []api.Term{a, b}}
}

// copied shares no memory with what it is made of.
func copied(p api.Program) api.Program {
	return changed(p, func(s string) string { return s })
}

// changed is a program with other names of variables.
func changed(p api.Program, name func(string) string) api.Program {
	return api.Program{Decls: each(p.Decls, func(d api.Decl) api.Decl { return d }), Facts: each(p.Facts, func(x api.Tuple) api.Tuple {
		x.Args = values(x.Args)
		return x
	}), Rules: each(p.Rules, func(r api.Rule) api.Rule {
		r.Args = terms(r.Args, name)
		r.Body = each(r.Body, func(l api.Literal) api.Literal {
			if l.Kind == api.LitAssign {
				l.Name = name(l.Name)
			}
			l.Args = terms(l.Args, name)
			return l
		})
		return r
	})}
}

func terms(l []api.Term, name func(string) string) []api.Term {
	return each(l, func(x api.Term) api.Term {
		if x.Kind == api.TermVar {
			x.Name = name(x.Name)
		}
		x.Value.List = values(x.Value.List)
		x.Args = terms(x.Args, name)
		return x
	})
}

func values(l []api.Value) []api.Value {
	return each(l, func(x api.Value) api.Value {
		x.List = values(x.List)
		return x
	})
}

// each leaves nil as it is, so that copies are alike in that, too.
func each[T any](l []T, do func(T) T) []T {
	if l == nil {
		return nil
	}
	out := []T{}
	for _, x := range l {
		out = append(out, do(x))
	}
	return out
}

// read are the variables of a right term, as often as they stand there, out of its text.
func read(t api.Term) []string {
	s := regexp.MustCompile(`"[^"]*"`).ReplaceAllString(printer.Term(t), "")
	return regexp.MustCompile(`[A-Z][A-Za-z0-9_]*`).FindAllString(s, -1)
}

// asked is what S3 asks for, of a program that is right by chapter 4, told another way: each thing is looked for in the whole program anew, and the first one is taken.
func asked(p api.Program) (api.Errno, int) {
	arities := map[string][]int{}
	for _, d := range p.Decls {
		arities[d.Name] = append(arities[d.Name], d.Arity)
	}
	there := func(name string, n int) bool { return len(arities[name]) > 0 && arities[name][0] == n }
	for _, l := range arities {
		if len(l) > 1 {
			return api.ErrArity, -1
		}
	}
	for _, x := range p.Facts {
		if !there(x.Name, len(x.Args)) {
			return api.ErrArity, -1
		}
	}
	for i, r := range p.Rules {
		relations := there(r.Head, len(r.Args))
		for _, l := range r.Body {
			relations = relations && (l.Kind == api.LitTest || l.Kind == api.LitAssign || there(l.Name, len(l.Args)))
		}
		if !relations {
			return api.ErrArity, i
		}
		for k, l := range r.Body {
			if e := askedAt(r, k, l); e != api.OK {
				return e, i
			}
		}
		for _, x := range r.Args {
			if unbound(r, len(r.Body), x) {
				return api.ErrBound, i
			}
		}
	}
	return api.OK, -1
}

func askedAt(r api.Rule, k int, l api.Literal) api.Errno {
	behind := k
	if l.Kind == api.LitAtom {
		behind = k + 1 // its own arguments count
	}
	for _, x := range l.Args {
		if unbound(r, behind, x) {
			return api.ErrBound
		}
	}
	if l.Kind == api.LitAssign && !unbound(r, k, v(l.Name)) {
		return api.ErrAgain
	}
	return api.OK
}

// unbound tells whether a term has a variable that none of the first n literals binds.
func unbound(r api.Rule, n int, x api.Term) bool {
	for _, name := range read(x) {
		found := false
		for _, l := range r.Body[:n] {
			found = found || l.Kind == api.LitAssign && l.Name == name
			for _, y := range l.Args {
				found = found || l.Kind == api.LitAtom && printer.Term(y) == name
			}
		}
		if !found {
			return true
		}
	}
	return false
}

// dice is numbers below what is asked, the same ones each time.
func dice() func(int) int {
	seed := uint32(6)
	return func(k int) int {
		seed = seed*1664525 + 1013904223
		return int(seed>>16) % k
	}
}

// drawer draws texts of programs; one part of so many is spoilt.
type drawer struct {
	roll  func(int) int
	wrong int
}

func (d drawer) bad() bool { return d.roll(d.wrong) == 0 }

func (d drawer) of(words string) string {
	l := strings.Fields(words)
	return l[d.roll(len(l))]
}

func (d drawer) many(n int, between string, draw func() string) string {
	var l []string
	for range n {
		l = append(l, draw())
	}
	return strings.Join(l, between)
}

func (d drawer) program() string {
	s := declared
	if d.bad() {
		s = strings.Replace(s, "materialize(q,1).", d.of("materialize(q,1).materialize(q,2). materialize(r,1).materialize(q,1).materialize(r,1)."), 1)
	}
	return s + d.many(d.roll(3), "\n", d.fact) + "\n" + d.many(d.roll(4), "\n", d.rule)
}

func (d drawer) relation() (string, int) {
	if d.bad() {
		return d.of("p q l x"), 1 + d.roll(4)
	}
	n := d.roll(3)
	return []string{"q", "p", "l"}[n], 1 + n
}

func (d drawer) fact() string {
	name, n := d.relation()
	return name + "(@a" + d.many(n-1, "", func() string { return "," + d.of("1 b [a] \"X\"") }) + ")."
}

func (d drawer) rule() string {
	return "r " + d.atom(func() string { return d.term(2) }) + " :- " + d.first() + d.many(1+d.roll(4), ", ", d.literal) + "."
}

// first is a literal that binds much, most times, so that enough rules are right.
func (d drawer) first() string {
	if d.roll(3) == 0 {
		return ""
	}
	return d.of("l(@S,X,Y) l(@S,X,Y),p(@Z,X) p(@S,X) l(@S,(X+1),X)") + ", "
}

func (d drawer) atom(argument func() string) string {
	name, n := d.relation()
	return name + "(@" + d.of("S S S X a") + d.many(n-1, "", func() string { return "," + argument() }) + ")"
}

func (d drawer) literal() string {
	switch d.roll(8) {
	case 0:
		return "!" + d.atom(func() string { return d.term(1) })
	case 1:
		return d.term(2) + d.of("== != < <= > >=") + d.term(1)
	case 2:
		return d.variable() + " := " + d.term(2)
	}
	return d.atom(func() string { return d.term(d.roll(2)) })
}

func (d drawer) variable() string { return d.of("X X Y Z S") }

func (d drawer) term(depth int) string {
	switch {
	case depth > 0 && d.roll(4) == 0:
		return d.of("f_cons f_member") + "(" + d.term(depth-1) + "," + d.term(depth-1) + ")"
	case depth > 0 && d.roll(4) == 0:
		return "(" + d.term(depth-1) + d.of("+ - *") + d.term(depth-1) + ")"
	case d.roll(3) == 0:
		return d.of("1 -2 a [b,1] [] \"X\"")
	}
	return d.variable()
}
