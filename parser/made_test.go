package parser

import (
	"strconv"
	"strings"

	"beaconry/api"
)

func v(name string) api.Term { return api.Term{Kind: api.TermVar, Name: name} }

func c(x api.Value) api.Term { return api.Term{Kind: api.TermValue, Value: x} }

func num(n int) api.Value { return api.Value{Kind: api.Int, Int: n} }

func quoted(s string) api.Value { return api.Value{Kind: api.Text, Text: s} }

func addr(s string) api.Value { return api.Value{Kind: api.Addr, Text: s} }

func listOf(l ...api.Value) api.Value { return api.Value{Kind: api.List, List: l} }

func op(a api.Term, name string, b api.Term) api.Term {
	return api.Term{Kind: api.TermOp, Name: name, Args: []api.Term{a, b}}
}

func call(name string, l ...api.Term) api.Term {
	return api.Term{Kind: api.TermCall, Name: name, Args: l}
}

func atom(name string, l ...api.Term) api.Literal {
	return api.Literal{Kind: api.LitAtom, Name: name, Args: l}
}

func not(name string, l ...api.Term) api.Literal {
	return api.Literal{Kind: api.LitNot, Name: name, Args: l}
}

func compared(a api.Term, name string, b api.Term) api.Literal {
	return api.Literal{Kind: api.LitTest, Name: name, Args: []api.Term{a, b}}
}

func set(name string, x api.Term) api.Literal {
	return api.Literal{Kind: api.LitAssign, Name: name, Args: []api.Term{x}}
}

func fact(name string, l ...api.Value) api.Tuple { return api.Tuple{Name: name, Args: l} }

// ruleOf is a rule whose head is h(@S,..), with an aggregate there, or at 0 with none.
func ruleOf(agg string, at int, args []api.Term, body ...api.Literal) api.Rule {
	return api.Rule{Label: "r", Head: "h", Args: append([]api.Term{v("S")}, args...), Agg: agg, At: at, Body: body}
}

// dice is numbers below what is asked, the same ones each time.
func dice() func(int) int {
	seed := uint32(7)
	return func(k int) int {
		seed = seed*1664525 + 1013904223
		return int(seed>>16) % k
	}
}

// drawer draws programs that the grammar has; one part of so many is not right by chapter 4 (0: none).
type drawer struct {
	roll  func(int) int
	wrong int
}

func (d drawer) bad() bool { return d.wrong > 0 && d.roll(d.wrong) == 0 }

func (d drawer) of(words string) string {
	l := strings.Fields(words)
	return l[d.roll(len(l))]
}

func many[T any](n int, draw func() T) []T {
	var out []T
	for range n {
		out = append(out, draw())
	}
	return out
}

func (d drawer) program() api.Program {
	size := func() int {
		if d.bad() {
			return 65
		}
		return d.roll(4)
	}
	return api.Program{Decls: many(size(), d.decl), Facts: many(size(), d.fact), Rules: many(size(), d.rule)}
}

func (d drawer) relation() string {
	if d.bad() {
		return d.of("f_cons f_size")
	}
	return d.of("p q link min max count f_ abcdefghijklmnop")
}

func (d drawer) decl() api.Decl {
	name := d.relation()
	if d.bad() {
		return api.Decl{Name: "materialize", Arity: 1}
	}
	if d.bad() {
		return api.Decl{Name: name, Arity: 9 * d.roll(2)}
	}
	return api.Decl{Name: name, Arity: 1 + d.roll(8)}
}

func (d drawer) length() int {
	if d.bad() {
		return 9
	}
	return 1 + d.roll(8)
}

func (d drawer) fact() api.Tuple {
	t := fact(d.relation(), many(d.length(), d.value)...)
	if !d.bad() {
		t.Args[0] = addr(d.of("a n1 min f_cons materialize"))
	}
	return t
}

func (d drawer) value() api.Value { return d.valueWithin(api.MaxDepth) }

func (d drawer) valueWithin(depth int) api.Value {
	kinds := 4
	if depth == 0 && !d.bad() {
		kinds = 3
	}
	switch d.roll(kinds) {
	case 0:
		return num((d.roll(3) - 1) * []int{1, 7, api.MaxInt}[d.roll(3)])
	case 1:
		return quoted(d.of("x . ), (@ :- f_cons min % a<b>c materialize") + strings.Repeat(" ", d.roll(3)))
	case 2:
		return addr(d.of("a b n_1 min count f_cons f_size materialize"))
	}
	n := d.roll(4)
	if d.bad() {
		n = 17
	}
	return listOf(many(n, func() api.Value { return d.valueWithin(max(depth-1, 0)) })...)
}

func (d drawer) variable() string { return d.of("S X Y Min A_1b ABCDEFGHIJKLMNOP") }

func (d drawer) term() api.Term { return d.termWithin(api.MaxTerm) }

func (d drawer) termWithin(depth int) api.Term {
	kinds := 6
	if depth == 1 && !d.bad() {
		kinds = 4
	}
	depth = max(depth-1, 1)
	part := func() api.Term { return d.termWithin(depth) }
	switch d.roll(kinds) {
	case 0, 1:
		return v(d.variable())
	case 2, 3:
		x := d.value()
		if x.Kind == api.Addr {
			x.Text = d.of("a b min materialize")
		}
		return c(x)
	case 4:
		return op(part(), d.of("+ - *"), part())
	}
	two := d.roll(2)
	name := []string{d.of("f_size f_first f_last f_rest f_reverse"), d.of("f_cons f_append f_concat f_member")}[two]
	n := 1 + two
	if d.bad() {
		n = d.otherCount(n)
	}
	return call(name, many(n, part)...)
}

// otherCount is how many arguments a function of n does not have.
func (d drawer) otherCount(n int) int { return (n + 1 + d.roll(2)) % 3 }

func (d drawer) place() api.Term {
	switch {
	case d.bad():
		return d.term()
	case d.roll(3) == 0:
		return c(addr("a"))
	}
	return v(d.variable())
}

func (d drawer) literal() api.Literal {
	args := func() []api.Term { return append([]api.Term{d.place()}, many(d.length()-1, d.term)...) }
	switch d.roll(4) {
	case 0:
		return atom(d.of("p q link min max abcdefghijklmnop"), args()...)
	case 1:
		return not(d.relation(), args()...)
	case 2:
		return compared(d.term(), d.of("== != < <= > >="), d.term())
	}
	return set(d.variable(), d.term())
}

func (d drawer) rule() api.Rule {
	r := api.Rule{Label: d.relation(), Head: d.relation()}
	r.Args = append([]api.Term{d.place()}, many(d.length()-1, d.term)...)
	r.Body = many(d.length(), d.literal)
	if at := d.roll(len(r.Args)); at > 0 {
		r.Agg, r.At = d.of("min max count"), at
		r.Args[at] = v(d.variable())
	}
	return r
}

// The tellers tell what a program is, right or not, as tokens' texts, by chapter 5's grammar.

func told(p api.Program) []string {
	var out []string
	for _, x := range p.Decls {
		out = append(out, tellDecl(x)...)
	}
	for _, x := range p.Facts {
		out = append(out, tellFact(x)...)
	}
	for _, x := range p.Rules {
		out = append(out, tellRule(x)...)
	}
	return out
}

func tellDecl(x api.Decl) []string {
	return []string{"materialize", "(", x.Name, ",", strconv.Itoa(x.Arity), ")", "."}
}

func tellFact(x api.Tuple) []string {
	return append(tellAtom(x.Name, tellAll(x.Args, tellValue)), ".")
}

func tellAll[T any](l []T, tell func(T) []string) [][]string {
	var out [][]string
	for _, x := range l {
		out = append(out, tell(x))
	}
	return out
}

func between(l [][]string) []string {
	var out []string
	for i, x := range l {
		if i > 0 {
			out = append(out, ",")
		}
		out = append(out, x...)
	}
	return out
}

func tellAtom(name string, args [][]string) []string {
	return append(append([]string{name, "(", "@"}, between(args)...), ")")
}

func tellValue(x api.Value) []string {
	switch {
	case x.Kind == api.Int && x.Int < 0:
		return []string{"-", strconv.Itoa(-x.Int)}
	case x.Kind == api.Int:
		return []string{strconv.Itoa(x.Int)}
	case x.Kind == api.Text:
		return []string{`"` + x.Text + `"`}
	case x.Kind == api.List:
		return append(append([]string{"["}, between(tellAll(x.List, tellValue))...), "]")
	}
	return []string{x.Text}
}

func tellTerm(x api.Term) []string {
	switch x.Kind {
	case api.TermVar:
		return []string{x.Name}
	case api.TermCall:
		return append(append([]string{x.Name, "("}, between(tellAll(x.Args, tellTerm))...), ")")
	case api.TermOp:
		out := append(append([]string{"("}, tellTerm(x.Args[0])...), x.Name)
		return append(append(out, tellTerm(x.Args[1])...), ")")
	}
	return tellValue(x.Value)
}

func tellLiteral(x api.Literal) []string {
	args := tellAll(x.Args, tellTerm)
	switch x.Kind {
	case api.LitAtom:
		return tellAtom(x.Name, args)
	case api.LitNot:
		return append([]string{"!"}, tellAtom(x.Name, args)...)
	case api.LitTest:
		return append(append(args[0], x.Name), args[1]...)
	}
	return append([]string{x.Name, ":="}, args[0]...)
}

func tellRule(x api.Rule) []string {
	args := tellAll(x.Args, tellTerm)
	if x.Agg != "" {
		args[x.At] = append(append([]string{x.Agg, "<"}, args[x.At]...), ">")
	}
	out := append([]string{x.Label}, tellAtom(x.Head, args)...)
	return append(append(append(out, ":-"), between(tellAll(x.Body, tellLiteral))...), ".")
}
