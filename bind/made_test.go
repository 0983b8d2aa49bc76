package bind

import (
	"slices"
	"strings"
	"testing"

	"beaconry/api"
	"beaconry/builtin"
	"beaconry/parser"
	"beaconry/value"
)

func v(name string) api.Term { return api.Term{Kind: api.TermVar, Name: name} }

func c(x api.Value) api.Term { return api.Term{Kind: api.TermValue, Value: x} }

func call(name string, l ...api.Term) api.Term {
	return api.Term{Kind: api.TermCall, Name: name, Args: l}
}

func op(name string, l ...api.Term) api.Term {
	return api.Term{Kind: api.TermOp, Name: name, Args: l}
}

func num(n int) api.Value { return api.Value{Kind: api.Int, Int: n} }

func text(s string) api.Value { return api.Value{Kind: api.Text, Text: s} }

func addr(s string) api.Value { return api.Value{Kind: api.Addr, Text: s} }

func list(l ...api.Value) api.Value { return api.Value{Kind: api.List, List: l} }

// terms are read out of a text, seven at most.
func terms(t *testing.T, s string) []api.Term {
	t.Helper()
	if s == "" {
		return nil
	}
	p, e, at := parser.Parse("r p(@S," + s + ") :- q(@S).")
	if e != api.OK {
		t.Fatalf("%s: %d at %d", s, e, at)
	}
	return p.Rules[0].Args[1:]
}

func values(t *testing.T, s string) []api.Value {
	t.Helper()
	var out []api.Value
	for _, x := range terms(t, s) {
		if x.Kind != api.TermValue {
			t.Fatalf("%s: no values", s)
		}
		out = append(out, x.Value)
	}
	return out
}

// envOf reads variables and their values, as X=1 Y=[a,b].
func envOf(t *testing.T, s string) []api.Bind {
	t.Helper()
	var out []api.Bind
	for _, x := range strings.Fields(s) {
		name, told, _ := strings.Cut(x, "=")
		out = append(out, api.Bind{Name: name, Value: values(t, told)[0]})
	}
	return out
}

// telling is how envOf would read it.
func telling(env []api.Bind) string {
	var l []string
	for _, b := range env {
		l = append(l, b.Name+"="+value.Print(b.Value))
	}
	return strings.Join(l, " ")
}

// same tells whether two values are the same, right ones or not, lists without elements being alike.
func same(a, b api.Value) bool {
	return a.Kind == b.Kind && a.Int == b.Int && a.Text == b.Text && slices.EqualFunc(a.List, b.List, same)
}

func sameBind(a, b api.Bind) bool { return a.Name == b.Name && same(a.Value, b.Value) }

func sameEnv(a, b []api.Bind) bool { return slices.EqualFunc(a, b, sameBind) }

// wrongs are values that are not right.
func wrongs() []api.Value {
	ones := slices.Repeat([]api.Value{num(1)}, 17)
	return []api.Value{
		{}, {Kind: 5}, {Kind: 5, Int: 1, Text: "a", List: ones}, {Kind: -1, Text: "a"}, {List: ones},
		num(api.MaxInt + 1), num(-api.MaxInt - 1), num(1<<63 - 1), num(-1 << 63), text(`"`), text("\xff"), text(strings.Repeat("x", 33)), addr(""), addr("A"), addr(strings.Repeat("a", 17)),
		{Kind: api.Int, Int: 1, Text: "a"}, {Kind: api.Int, Int: 1, List: ones}, {Kind: api.Text, Int: 1, List: ones}, {Kind: api.Addr, Int: 1, Text: "a"}, {Kind: api.List, Int: 1, Text: "a", List: ones[:1]},
		list(ones...), list(api.Value{}), list(num(1), list(list(list(list())))), list(num(1), list(num(1<<31))), nest(5),
	}
}

// nest is a list of that depth.
func nest(depth int) api.Value {
	x := list()
	for range depth - 1 {
		x = list(x)
	}
	return x
}

// byNames has the first value of each name.
func byNames(env []api.Bind) map[string]api.Value {
	out := map[string]api.Value{}
	for _, b := range slices.Backward(env) {
		out[b.Name] = b.Value
	}
	return out
}

// parts are a term's, each behind those that stand within it, itself the last one.
func parts(t api.Term) []api.Term {
	var out []api.Term
	for _, x := range t.Args {
		out = append(out, parts(x)...)
	}
	return append(out, t)
}

// vars are the variables' names in a term.
func vars(t api.Term) []string {
	var out []string
	for _, x := range parts(t) {
		if x.Kind == api.TermVar {
			out = append(out, x.Name)
		}
	}
	return out
}

// evaled is what N2 asks for, told another way: a term's parts are put on a stack, or taken off it and made one.
func evaled(t api.Term, env []api.Bind) (api.Value, bool) {
	by := byNames(env)
	var stack []api.Value
	for _, x := range parts(t) {
		low := len(stack) - len(x.Args)
		args, y, ok := stack[low:], x.Value, x.Kind == api.TermValue
		switch {
		case x.Kind == api.TermVar:
			y, ok = by[x.Name]
		case x.Kind == api.TermCall:
			y, ok = builtin.Call(x.Name, args)
		case x.Kind == api.TermOp && len(args) == 2:
			y, ok = builtin.Op(x.Name, args[0], args[1])
		}
		if !ok {
			return api.Value{}, false
		}
		stack = append(stack[:low:low], y)
	}
	return stack[0], true
}

// matched is what N3 asks for, told another way: each argument is held against its value when all variables have theirs in a map.
func matched(args []api.Term, l []api.Value, env []api.Bind) ([]api.Bind, bool) {
	if len(args) != len(l) {
		return nil, false
	}
	by, out := byNames(env), slices.Clone(env)
	for i, x := range args {
		if x.Kind != api.TermVar {
			continue
		}
		if had, is := by[x.Name]; is && value.Compare(had, l[i]) != 0 {
			return nil, false
		} else if !is {
			by[x.Name] = l[i]
			out = append(out, api.Bind{Name: x.Name, Value: l[i]})
		}
	}
	for i, x := range args {
		if x.Kind == api.TermVar {
			continue
		}
		if y, ok := evaled(x, out); !ok || value.Compare(y, l[i]) != 0 {
			return nil, false
		}
	}
	return out, true
}

// drawer draws out of few values and names, so that sames are among them.
type drawer struct{ seed uint32 }

func (d *drawer) below(k int) int {
	d.seed = d.seed*1664525 + 1013904223
	return int(d.seed>>16) % k
}

func (d *drawer) of(words string) string {
	l := strings.Fields(words)
	return l[d.below(len(l))]
}

func (d *drawer) name() string { return d.of("X X Y Z L M") }

// value is a list of L and M, most times, and a number of the others.
func (d *drawer) value(name string) api.Value {
	switch k := d.below(12); {
	case k == 0:
		return addr(d.of("a b"))
	case k == 1:
		return text(d.of("a b"))
	case k == 2:
		l := wrongs()
		return l[d.below(len(l))]
	case (k == 3) != (name == "L" || name == "M"):
		return d.list()
	}
	return num(d.below(4) - 1)
}

func (d *drawer) list() api.Value {
	out := list()
	for range d.below(4) {
		out.List = append(out.List, d.value("X"))
	}
	return out
}

func (d *drawer) env(most int) []api.Bind {
	var out []api.Bind
	for range d.below(most + 1) {
		name := d.name()
		out = append(out, api.Bind{Name: name, Value: d.value(name)})
	}
	return out
}

func (d *drawer) term(depth int) api.Term {
	k := d.below(12)
	switch {
	case k < 4 || depth < 1 && k < 10:
		return v(d.name())
	case k < 6 || depth < 1:
		return c(d.value(d.name()))
	case k < 8:
		return op(d.of("+ - * + - * /"), d.term(depth-1), d.term(depth-1))
	case k < 10:
		return call(d.of("f_cons f_cons f_member"), d.term(depth-1), v(d.of("L M")))
	case k == 10:
		return call(d.of("f_size f_first f_rest f_reverse"), v(d.of("L M")))
	}
	return d.odd(depth)
}

// odd is mostly no right term.
func (d *drawer) odd(depth int) api.Term {
	x := call(d.of("f_cons f_size f_none"))
	x.Kind = d.below(6)
	for range d.below(4) {
		x.Args = append(x.Args, d.term(depth-1))
	}
	if x.Kind == api.TermVar || x.Kind == api.TermValue {
		x.Args = nil
	}
	return x
}

// atom is arguments with values that are mostly theirs, and what may be bound ahead.
func (d *drawer) atom() ([]api.Term, []api.Value, []api.Bind) {
	all := []api.Bind{}
	for _, name := range strings.Fields("X Y Z L M") {
		all = append(all, api.Bind{Name: name, Value: d.value(name)})
	}
	var args []api.Term
	var l []api.Value
	for range d.below(6) {
		x := d.term(2 * d.below(2))
		y, ok := evaled(x, all)
		if !ok || d.below(10) == 0 {
			y = d.value(d.name())
		}
		args, l = append(args, x), append(l, y)
	}
	var env []api.Bind
	for range d.below(4) {
		env = append(env, all[d.below(len(all))])
	}
	if d.below(10) == 0 {
		env = append(env, d.env(2)...)
	}
	if d.below(20) == 0 {
		l = append(l, num(1))
	}
	return args, l, env
}
