package locate

import (
	"regexp"
	"slices"
	"strings"
	"testing"

	"beaconry/api"
	"beaconry/parser"
	"beaconry/printer"
)

const declared = "materialize(p,2). materialize(q,1). materialize(t,3). materialize(link,3).\n"

func parsed(t *testing.T, s string) api.Program {
	t.Helper()
	p, e, at := parser.Parse(s)
	if e != api.OK {
		t.Fatalf("%s: %d at %d", s, e, at)
	}
	return p
}

// rule is of a text without label and dot.
func rule(t *testing.T, s string) api.Rule {
	t.Helper()
	return parsed(t, "r "+s+".").Rules[0]
}

func v(name string) api.Term { return api.Term{Kind: api.TermVar, Name: name} }

func num(n int) api.Term {
	return api.Term{Kind: api.TermValue, Value: api.Value{Kind: api.Int, Int: n}}
}

// copied shares no memory with what it is made of.
func copied(p api.Program) api.Program {
	return changed(p, func(s string) string { return s })
}

// changed is a program with other names of variables.
func changed(p api.Program, name func(string) string) api.Program {
	return api.Program{Decls: slices.Clone(p.Decls), Facts: each(p.Facts, func(x api.Tuple) api.Tuple {
		x.Args = values(x.Args)
		return x
	}), Rules: each(p.Rules, func(r api.Rule) api.Rule { return renamed(r, name) })}
}

func renamed(r api.Rule, name func(string) string) api.Rule {
	r.Args = terms(r.Args, name)
	r.Body = each(r.Body, func(l api.Literal) api.Literal {
		if l.Kind == api.LitAssign {
			l.Name = name(l.Name)
		}
		l.Args = terms(l.Args, name)
		return l
	})
	return r
}

func terms(l []api.Term, name func(string) string) []api.Term {
	return each(l, func(x api.Term) api.Term {
		if x.Kind == api.TermVar {
			x.Name = name(x.Name)
		}
		x.Value.List = values(x.Value.List)
		x.Args = terms(x.Args, name)
		return x
	})
}

func values(l []api.Value) []api.Value {
	return each(l, func(x api.Value) api.Value {
		x.List = values(x.List)
		return x
	})
}

// each leaves nil as it is, so that copies are alike in that, too.
func each[T any](l []T, do func(T) T) []T {
	if l == nil {
		return nil
	}
	out := []T{}
	for _, x := range l {
		out = append(out, do(x))
	}
	return out
}

var (
	variable  = regexp.MustCompile(`[A-Z]\w*`)
	ruleHead  = regexp.MustCompile(`^\w+ (\w+)\(@(\w+)[,)]`)
	placeRead = regexp.MustCompile(`^(!?)\w+\(@([^,)]+)[,)]`)
)

// asked is what L1 asks for, told another way: every place that the names in a rule's text make with its head's is held against it, and the one that fits is taken.
func asked(t *testing.T, r api.Rule) (api.Place, bool) {
	t.Helper()
	names := variable.FindAllString(printer.Rule(r), -1)
	slices.Sort(names)
	names = slices.Compact(names)
	head := ruleHead.FindStringSubmatch(printer.Rule(r))
	if head == nil || head[1] == "link" || !slices.Contains(names, head[2]) {
		return api.Place{}, false
	}
	var found []api.Place
	for _, from := range names {
		for _, to := range append([]string{""}, names...) {
			if p := (api.Place{From: from, To: to, Head: head[2]}); fits(r, p) {
				found = append(found, p)
			}
		}
	}
	switch len(found) {
	case 0:
		return api.Place{}, false
	case 1:
		return found[0], true
	}
	t.Fatalf("%s: more than one place: %v", printer.Rule(r), found)
	return api.Place{}, false
}

// fits goes by the texts of a rule's parts alone.
func fits(r api.Rule, p api.Place) bool {
	at, atom := placesRead(r)
	if !atom || !slices.Contains(at, p.From) || p.To != "" && !slices.Contains(at, p.To) || p.To == p.From {
		return false
	}
	for _, x := range at {
		if x != p.From && x != p.To {
			return false
		}
	}
	lone := p.To == ""
	if r.Agg != "" {
		return lone && p.Head == p.From
	}
	if lone {
		return p.Head == p.From || firstLink(r, p.From, p.Head) < len(r.Body)
	}
	first := firstLink(r, p.From, p.To)
	return (p.Head == p.From || p.Head == p.To) && first < len(r.Body) && first < firstLink(r, p.To, p.From)
}

// placesRead are the places of a body's atoms and LitNots, as often as they stand there, and whether there is an atom.
func placesRead(r api.Rule) (at []string, atom bool) {
	for _, l := range r.Body {
		if m := placeRead.FindStringSubmatch(printer.Literal(l)); m != nil {
			at = append(at, m[2])
			atom = atom || m[1] == ""
		}
	}
	return at, atom
}

// firstLink is the body's length, if there is none such.
func firstLink(r api.Rule, from, to string) int {
	for i, l := range r.Body {
		s := printer.Literal(l)
		if strings.HasPrefix(s, "link(@"+from+","+to+",") || s == "link(@"+from+","+to+")" {
			return i
		}
	}
	return len(r.Body)
}

// dice is numbers below what is asked, the same ones each time.
func dice() func(int) int {
	seed := uint32(7)
	return func(k int) int {
		seed = seed*1664525 + 1013904223
		return int(seed>>16) % k
	}
}

// drawer draws texts of rules and programs; in fit ones relations have as many arguments as they are declared with.
type drawer struct {
	roll func(int) int
	fit  bool
}

func (d drawer) of(l ...string) string { return l[d.roll(len(l))] }

func (d drawer) word(words string) string { return d.of(strings.Fields(words)...) }

func (d drawer) many(n int, between string, draw func() string) string {
	var l []string
	for range n {
		l = append(l, draw())
	}
	return strings.Join(l, between)
}

func (d drawer) program() string {
	return declared + d.many(d.roll(2), "\n", func() string { return "q(@a)." }) + d.many(d.roll(4), "\n", func() string { return "r " + d.rule() + "." })
}

// rule is without label and dot; many begin with what lets others have their places and be bound.
func (d drawer) rule() string {
	body := d.many(1+d.roll(4), ", ", d.literal)
	if d.roll(4) > 0 {
		body = d.of("link(@S,D,Z)", "link(@S,D,X), t(@S,Z,Y)", "t(@S,D,Z)", "t(@S,D,Z), link(@D,S,Z)", "link(@D,S,Z), link(@S,D,Z)", "link(@S,D,Z), link(@S,Z,D)", "t(@S,D,Z), !q(@S)") + ", " + body
	}
	return d.head() + " :- " + body
}

func (d drawer) head() string {
	return d.word("p p p p p p p link") + "(@" + d.word("S S S S S D D D Z a") + "," + d.word("D D D S S 1 count<S> min<D> max<Z>") + d.filled(1) + ")"
}

// filled is now and then one argument too many, of p; of link it is one that lacks.
func (d drawer) filled(n int) string { return strings.Repeat(",S", d.roll(40)/(40-n)) }

func (d drawer) literal() string {
	switch d.roll(12) {
	case 0, 1:
		return "!" + d.atom(d.word("p q t link"))
	case 2:
		return d.of("S == D", "Z != 1", "f_size(D) < D", "1 >= \"link(@S,D)\"", "X := S", "Z := S")
	case 3, 4, 5:
		return d.atom("link")
	}
	return d.atom(d.word("p q t"))
}

func (d drawer) atom(name string) string {
	n := d.roll(3)
	if d.fit {
		n = map[string]int{"q": 0, "p": 1, "t": 2, "link": 2}[name]
	}
	return name + "(@" + d.word("S S S S S S S S S S S S D D D D D D Z a") + d.many(n, "", func() string { return "," + d.word("D D D D S S Z a 1 (S+D) f_size(D)") }) + ")"
}
