package printer

import (
	"fmt"
	"reflect"
	"slices"
	"strings"
	"testing"

	"beaconry/api"
	"beaconry/value"
)

func v(name string) api.Term { return api.Term{Kind: api.TermVar, Name: name} }

func c(x api.Value) api.Term { return api.Term{Kind: api.TermValue, Value: x} }

func num(n int) api.Term { return c(api.Value{Kind: api.Int, Int: n}) }

func quoted(s string) api.Term { return c(api.Value{Kind: api.Text, Text: s}) }

func addr(s string) api.Term { return c(api.Value{Kind: api.Addr, Text: s}) }

func listOf(l ...api.Value) api.Term { return c(api.Value{Kind: api.List, List: l}) }

func op(name string, l ...api.Term) api.Term {
	return api.Term{Kind: api.TermOp, Name: name, Args: l}
}

func call(name string, l ...api.Term) api.Term {
	return api.Term{Kind: api.TermCall, Name: name, Args: l}
}

func atom(name string, l ...api.Term) api.Literal {
	return api.Literal{Kind: api.LitAtom, Name: name, Args: l}
}

func not(name string, l ...api.Term) api.Literal {
	return api.Literal{Kind: api.LitNot, Name: name, Args: l}
}

func compared(name string, l ...api.Term) api.Literal {
	return api.Literal{Kind: api.LitTest, Name: name, Args: l}
}

func set(name string, l ...api.Term) api.Literal {
	return api.Literal{Kind: api.LitAssign, Name: name, Args: l}
}

func rule(args []api.Term, body ...api.Literal) api.Rule {
	return api.Rule{Label: "r", Head: "h", Args: args, Body: body}
}

func functions() map[string]int {
	return map[string]int{"f_cons": 2, "f_append": 2, "f_concat": 2, "f_member": 2, "f_size": 1, "f_first": 1, "f_last": 1, "f_rest": 1, "f_reverse": 1}
}

func comparers() []string { return []string{"==", "!=", "<", "<=", ">", ">="} }

// noRelations are what no relation and no label may be named.
func noRelations() []string {
	out := []string{"", "P", "pQ", "_", "_p", "1", "1p", "p q", "p.", "p\n", "p\x00", "é", "pé", "\xff", "p\xff", "abcdefghijklmnopq", "materialize", "==", "+", "@p", "!p"}
	for name := range functions() {
		out = append(out, name)
	}
	return out
}

// relations are what a relation and a label may be named, with what is nearly none.
func relations() []string {
	return []string{"p", "z", "p_", "p0", "abcdefghijklmnop", "a_0123456789_bcz", "min", "max", "count", "materializ", "materialize1", "f", "f_", "f_con", "f_conss", "f_cons1", "g_cons", "link"}
}

// wantTerm asks for a right term's text, alone and at each place of a rule.
func wantTerm(t *testing.T, x api.Term, want string) {
	t.Helper()
	if got := Term(x); got != want || want == "" {
		t.Errorf("%q, not %q", got, want)
	}
	wantLiteral(t, atom("p", v("S"), x), "p(@S,"+want+")")
	wantLiteral(t, not("p", addr("a"), num(1), x), "!p(@a,1,"+want+")")
	wantLiteral(t, compared("<", x, v("X")), want+" < X")
	wantLiteral(t, compared(">=", v("X"), x), "X >= "+want)
	wantLiteral(t, set("X", x), "X := "+want)
	wantRule(t, rule([]api.Term{v("S"), x}, atom("p", v("S"))), "r h(@S,"+want+") :- p(@S).")
}

// noTerm asks for the empty text of what is no term, and of all that has it as a part.
func noTerm(t *testing.T, what string, x api.Term) {
	t.Helper()
	if s := Term(x); s != "" {
		t.Errorf("%s: %q", what, s)
	}
	for i := range 3 {
		args := []api.Term{v("S"), v("X"), v("Y")}
		args[i] = x
		noLiteral(t, what, atom("p", args...))
		noLiteral(t, what, not("p", args...))
		noRule(t, what, rule(args, atom("p", v("S"))))
	}
	for i := range 2 {
		args := []api.Term{v("X"), v("Y")}
		args[i] = x
		noLiteral(t, what, compared("==", args...))
		for _, y := range []api.Term{op("+", args...), call("f_cons", args...)} {
			if s := Term(y); s != "" {
				t.Errorf("%s within a term: %q", what, s)
			}
		}
	}
	noLiteral(t, what, set("X", x))
	if s := Term(call("f_size", x)); s != "" {
		t.Errorf("%s within a call: %q", what, s)
	}
}

// wantLiteral asks for a right literal's text, alone and as each of a body.
func wantLiteral(t *testing.T, l api.Literal, want string) {
	t.Helper()
	if got := Literal(l); got != want || want == "" {
		t.Errorf("%q, not %q", got, want)
	}
	wantRule(t, rule([]api.Term{v("S")}, l), "r h(@S) :- "+want+".")
	wantRule(t, rule([]api.Term{v("S")}, atom("q", v("S")), l, l), "r h(@S) :- q(@S), "+want+", "+want+".")
}

func noLiteral(t *testing.T, what string, l api.Literal) {
	t.Helper()
	if s := Literal(l); s != "" {
		t.Errorf("%s: %q", what, s)
	}
	for i := range 3 {
		body := slices.Repeat([]api.Literal{atom("p", v("S"))}, 3)
		body[i] = l
		noRule(t, what, rule([]api.Term{v("S")}, body...))
	}
}

// wantRule asks for a right rule's text, alone and in a program.
func wantRule(t *testing.T, r api.Rule, want string) {
	t.Helper()
	if got := Rule(r); got != want || want == "" {
		t.Errorf("%q, not %q", got, want)
	}
	wantProgram(t, api.Program{Rules: []api.Rule{r, r}}, want+"\n"+want+"\n")
}

func noRule(t *testing.T, what string, r api.Rule) {
	t.Helper()
	if s := Rule(r); s != "" {
		t.Errorf("%s: %q", what, s)
	}
	good := rule([]api.Term{v("S")}, atom("p", v("S")))
	for i := range 3 {
		l := []api.Rule{good, good, good}
		l[i] = r
		noProgram(t, what, api.Program{Rules: l})
	}
}

func wantTuple(t *testing.T, x api.Tuple, want string) {
	t.Helper()
	if got := Tuple(x); got != want || want == "" {
		t.Errorf("%q, not %q", got, want)
	}
	wantProgram(t, api.Program{Facts: []api.Tuple{x, x}}, want+"\n"+want+"\n")
}

func noTuple(t *testing.T, what string, x api.Tuple) {
	t.Helper()
	if s := Tuple(x); s != "" {
		t.Errorf("%s: %q", what, s)
	}
	good := api.Tuple{Name: "p", Args: []api.Value{{Kind: api.Addr, Text: "a"}}}
	for i := range 3 {
		l := []api.Tuple{good, good, good}
		l[i] = x
		noProgram(t, what, api.Program{Facts: l})
	}
}

func wantProgram(t *testing.T, p api.Program, want string) {
	t.Helper()
	if got := Print(p); !Right(p) || got != want {
		t.Errorf("%v %q, not %q", Right(p), got, want)
	}
}

func noProgram(t *testing.T, what string, p api.Program) {
	t.Helper()
	if s := Print(p); Right(p) || s != "" {
		t.Errorf("%s: %v %q", what, Right(p), s)
	}
}

func TestTermP2(t *testing.T) {
	one, a := api.Value{Kind: api.Int, Int: 1}, api.Value{Kind: api.Addr, Text: "a"}
	for want, x := range map[string]api.Term{
		"X": v("X"), "S_1": v("S_1"), "Min": v("Min"),
		"0": num(0), "3": num(3), "-3": num(-3), "2147483647": num(api.MaxInt), "-2147483647": num(-api.MaxInt),
		`""`: quoted(""), `"ab"`: quoted("ab"), `"X"`: quoted("X"), `"), !p(@S"`: quoted("), !p(@S"), `"f_cons"`: quoted("f_cons"),
		"a": addr("a"), "n1": addr("n1"), "min": addr("min"), "materialize": addr("materialize"), "f_con": addr("f_con"),
		"[]": listOf(), "[a]": listOf(a), `[1,[a,[]],"x"]`: listOf(one, api.Value{Kind: api.List, List: []api.Value{a, {Kind: api.List}}}, api.Value{Kind: api.Text, Text: "x"}),
		"[f_cons,f_size]": listOf(api.Value{Kind: api.Addr, Text: "f_cons"}, api.Value{Kind: api.Addr, Text: "f_size"}), // within a list no function can stand
		"(X+Y)":           op("+", v("X"), v("Y")), "(X-Y)": op("-", v("X"), v("Y")), "(X*Y)": op("*", v("X"), v("Y")),
		"(X--3)": op("-", v("X"), num(-3)), "(-3-(-3--3))": op("-", num(-3), op("-", num(-3), num(-3))), "((X+Y)*(1-a))": op("*", op("+", v("X"), v("Y")), op("-", num(1), addr("a"))),
		"(X+(Y*2))": op("+", v("X"), op("*", v("Y"), num(2))), "((X+Y)*2)": op("*", op("+", v("X"), v("Y")), num(2)),
		"f_cons(X,f_reverse(L))": call("f_cons", v("X"), call("f_reverse", v("L"))), "f_concat(f_rest(L),[1])": call("f_concat", call("f_rest", v("L")), listOf(one)),
		"f_size((X+1))": call("f_size", op("+", v("X"), num(1))), "(f_size(L)+f_member(L,a))": op("+", call("f_size", v("L")), call("f_member", v("L"), addr("a"))),
	} {
		wantTerm(t, x, want)
	}
	for name, n := range functions() {
		args := []api.Term{v("X"), num(7)}[:n]
		wantTerm(t, call(name, args...), name+"("+[]string{"", "X", "X,7"}[n]+")")
	}
}

// TestEmptyListsAreAlike: rule R2, a list without elements may be nil or not.
func TestEmptyListsAreAlike(t *testing.T) {
	x, y := v("X"), num(1)
	x.Args, y.Args = []api.Term{}, []api.Term{}
	x.Value.List, y.Value.List = []api.Value{}, []api.Value{}
	wantTerm(t, x, "X")
	wantTerm(t, y, "1")
	f := call("f_size", x)
	f.Value.List = []api.Value{}
	wantTerm(t, f, "f_size(X)")
	f = op("+", x, y)
	f.Value.List = []api.Value{}
	wantTerm(t, f, "(X+1)")
	wantProgram(t, api.Program{}, "")
	wantProgram(t, api.Program{Decls: []api.Decl{}, Facts: []api.Tuple{}, Rules: []api.Rule{}}, "")
}

func wrongValues() []api.Value {
	deep := api.Value{Kind: api.List}
	for range 4 {
		deep = api.Value{Kind: api.List, List: []api.Value{deep}}
	}
	return []api.Value{
		{}, {Kind: 5}, {Kind: -1}, {Kind: api.Int, Int: api.MaxInt + 1}, {Kind: api.Int, Int: -api.MaxInt - 1}, {Kind: api.Int, Text: "a"}, {Kind: api.Text, Text: `"`}, {Kind: api.Text, Text: "\n"}, {Kind: api.Text, Text: strings.Repeat("x", 33)},
		{Kind: api.Addr}, {Kind: api.Addr, Text: "A"}, {Kind: api.Addr, Text: "a", Int: 1}, {Kind: api.Addr, Text: strings.Repeat("a", 17)}, {Kind: api.List, List: make([]api.Value, 1)}, {Kind: api.List, List: slices.Repeat([]api.Value{{Kind: api.Int}}, 17)}, deep,
	}
}

func TestWrongTermP2(t *testing.T) {
	withValue := func(x api.Term, y api.Value) api.Term {
		x.Value = y
		return x
	}
	withArgs := func(x api.Term, l ...api.Term) api.Term {
		x.Args = l
		return x
	}
	for what, x := range map[string]api.Term{
		"no kind": {}, "no kind, a name": {Name: "X"}, "kind 5": {Kind: 5, Name: "X"}, "kind -1": {Kind: -1, Name: "X"}, "kind beyond": {Kind: 1<<32 + 1, Name: "X"},
		"variable with a number": withValue(v("X"), api.Value{Kind: api.Int, Int: 1}), "variable with a kind": withValue(v("X"), api.Value{Kind: api.Int}), "variable with a value's number": withValue(v("X"), api.Value{Int: 1}),
		"variable with a value's text": withValue(v("X"), api.Value{Text: "a"}), "variable with a value's list": withValue(v("X"), api.Value{List: make([]api.Value, 1)}), "variable with an argument": withArgs(v("X"), v("X")),
		"value with a name": {Kind: api.TermValue, Name: "x", Value: api.Value{Kind: api.Int}}, "value with an argument": withArgs(num(1), v("X")), "value, but a name alone": {Kind: api.TermValue, Name: "a"},
		"call with a value": withValue(call("f_size", v("X")), api.Value{Kind: api.Int}), "call with a value's list": withValue(call("f_size", v("X")), api.Value{List: make([]api.Value, 1)}),
		"op with a value": withValue(op("+", v("X"), v("Y")), api.Value{Kind: api.Int}), "op with a value's text": withValue(op("+", v("X"), v("Y")), api.Value{Text: "x"}),
		"op of 0": op("+"), "op of 1": op("+", v("X")), "op of 3": op("+", v("X"), v("X"), v("X")), "op of many": op("-", make([]api.Term, 1<<16)...),
		"op's first part": op("*", api.Term{}, v("X")), "op's second part": op("*", v("X"), api.Term{}), "call's last part": call("f_cons", v("X"), v("x")), "call's first part": call("f_cons", num(1<<31), v("X")),
	} {
		noTerm(t, what, x)
	}
	for _, x := range wrongValues() {
		noTerm(t, "wrong value", c(x))
	}
	for _, name := range []string{"", "/", "%", "++", "+-", "**", " +", "+ ", "-\x00", "==", "<", ":=", "f_cons", "X", "\xff"} {
		noTerm(t, "op "+name, op(name, v("X"), v("Y")))
	}
	for _, name := range []string{"", "g", "f", "f_", "f_con", "f_conss", "F_cons", "cons", "f_cons ", "min", "materialize", "+", "X", "\xff"} {
		for n := range 4 {
			noTerm(t, "call of "+name, call(name, slices.Repeat([]api.Term{v("X")}, n)...))
		}
	}
	for name, n := range functions() {
		noTerm(t, "an address that is a function", addr(name))
		noTerm(t, "one too few", call(name, slices.Repeat([]api.Term{v("X")}, n-1)...))
		noTerm(t, "one too many", call(name, slices.Repeat([]api.Term{v("X")}, n+1)...))
		noTerm(t, "many", call(name, make([]api.Term, 1<<16)...))
	}
}

// nested is a term of that depth, of calls, or of ops, that go on in their first or in their last part.
func nested(way string, depth int) api.Term {
	x := v("X")
	for range depth - 1 {
		switch way {
		case "f_rest(":
			x = call("f_rest", x)
		case "f_append(L,":
			x = call("f_append", v("L"), x)
		case "(Y-":
			x = op("-", v("Y"), x)
		case "(":
			x = op("+", x, v("Y"))
		}
	}
	return x
}

func TestDepthP2(t *testing.T) {
	for way, end := range map[string]string{"f_rest(": ")", "f_append(L,": ")", "(Y-": ")", "(": "+Y)"} {
		for depth := 1; depth <= api.MaxTerm; depth++ {
			wantTerm(t, nested(way, depth), strings.Repeat(way, depth-1)+"X"+strings.Repeat(end, depth-1))
		}
		for _, depth := range []int{api.MaxTerm + 1, api.MaxTerm + 2, 1 << 16} {
			noTerm(t, fmt.Sprint("depth ", depth, " ", way), nested(way, depth))
		}
	}
	// A value's lists don't count: the list of depth 4 stands at a term's depth of 8.
	x := listOf(api.Value{Kind: api.List, List: []api.Value{{Kind: api.List, List: []api.Value{{Kind: api.List}}}}})
	want := "[[[[]]]]"
	for range api.MaxTerm - 1 {
		x, want = call("f_reverse", x), "f_reverse("+want+")"
	}
	wantTerm(t, x, want)
	noTerm(t, "depth 9", call("f_reverse", x))
}

// TestVariablesP2: names of variables, as terms, and as what is set.
func TestVariablesP2(t *testing.T) {
	good := []string{"X", "A", "Z", "X_", "X9", "Xy", "XY", "Min", "F_cons", "ABCDEFGHIJKLMNOP", "A_0123456789_xyZ", "S_______________"}
	bad := []string{"", "x", "_", "_X", "1", "9X", "@X", "X ", " X", "X-", "X.", "X\n", "X\x00", "X\xff", "\xff", "É", "Xé", "X\uFFFD", "\uFFFD", "Ａ", "XＡ", "ABCDEFGHIJKLMNOPQ", "Abcdefghijklmno\xff", strings.Repeat("X", 1<<16)}
	for b := range 256 {
		letter, capital := b >= 'a' && b <= 'z', b >= 'A' && b <= 'Z'
		one, two := string([]byte{byte(b)}), string([]byte{'X', byte(b)})
		if capital {
			good = append(good, one)
		} else {
			bad = append(bad, one)
		}
		if letter || capital || b >= '0' && b <= '9' || b == '_' {
			good = append(good, two)
		} else {
			bad = append(bad, two)
		}
	}
	for _, name := range good {
		wantTerm(t, v(name), name)
		wantLiteral(t, set(name, num(1)), name+" := 1")
		wantLiteral(t, atom("p", v(name)), "p(@"+name+")")
	}
	for _, name := range bad {
		noTerm(t, "variable", v(name))
		noLiteral(t, "variable that is set", set(name, num(1)))
	}
}

func TestLiteralP2(t *testing.T) {
	for want, l := range map[string]api.Literal{
		"p(@S)": atom("p", v("S")), "p(@a)": atom("p", addr("a")), "p(@materialize)": atom("p", addr("materialize")), `link(@S,1,"x",[],(X+1),f_size(L),b)`: atom("link", v("S"), num(1), quoted("x"), listOf(), op("+", v("X"), num(1)), call("f_size", v("L")), addr("b")),
		"!p(@S)": not("p", v("S")), "!p(@a,Y)": not("p", addr("a"), v("Y")), "!min(@S,min)": not("min", v("S"), addr("min")),
		"1 == 1": compared("==", num(1), num(1)), "(X+1) < f_size(L)": compared("<", op("+", v("X"), num(1)), call("f_size", v("L"))), `"<" <= a`: compared("<=", quoted("<"), addr("a")),
		"X := X": set("X", v("X")), "Cost := (A+B)": set("Cost", op("+", v("A"), v("B"))), "X := []": set("X", listOf()),
	} {
		wantLiteral(t, l, want)
	}
	for _, name := range comparers() {
		wantLiteral(t, compared(name, v("X"), num(-1)), "X "+name+" -1")
	}
	for _, name := range relations() {
		wantLiteral(t, atom(name, v("S")), name+"(@S)")
		wantLiteral(t, not(name, v("S")), "!"+name+"(@S)")
	}
	for n := 1; n <= api.MaxArity; n++ {
		args := slices.Repeat([]api.Term{v("S")}, n)
		wantLiteral(t, atom("p", args...), "p(@S"+strings.Repeat(",S", n-1)+")")
		wantLiteral(t, not("p", args...), "!p(@S"+strings.Repeat(",S", n-1)+")")
	}
}

// noPlaces are right terms that may not be a first argument.
func noPlaces() []api.Term {
	return []api.Term{num(1), quoted("a"), listOf(), listOf(api.Value{Kind: api.Addr, Text: "a"}), op("+", v("S"), num(0)), call("f_first", v("L"))}
}

func TestWrongLiteralP2(t *testing.T) {
	for what, l := range map[string]api.Literal{
		"no kind": {}, "no kind, else an atom": {Name: "p", Args: []api.Term{v("S")}}, "kind 5": {Kind: 5, Name: "p", Args: []api.Term{v("S")}}, "kind -1": {Kind: -1, Name: "p", Args: []api.Term{v("S")}}, "kind beyond": {Kind: 1<<32 + 1, Name: "p", Args: []api.Term{v("S")}},
		"atom of 0": atom("p"), "atom of 9": atom("p", slices.Repeat([]api.Term{v("S")}, 9)...), "atom of many": atom("p", slices.Repeat([]api.Term{v("S")}, 1<<16)...),
		"not of 0": not("p"), "not of 9": not("p", slices.Repeat([]api.Term{v("S")}, 9)...),
		"test of 0": compared("=="), "test of 1": compared("==", v("X")), "test of 3": compared("==", v("X"), v("X"), v("X")),
		"setting of 0": set("X"), "setting of 2": set("X", v("Y"), v("Y")), "setting by a call's name": set("f_size", v("X")),
	} {
		noLiteral(t, what, l)
	}
	for _, name := range noRelations() {
		noLiteral(t, "relation "+name, atom(name, v("S")))
		noLiteral(t, "relation "+name, not(name, v("S")))
	}
	for _, name := range []string{"", "=", "<>", "===", "=<", "=>", "!", ":=", "< ", " ==", "+", "p", "f_member", "\xff"} {
		noLiteral(t, "test "+name, compared(name, v("X"), v("Y")))
	}
	for _, x := range noPlaces() {
		noLiteral(t, "no place", atom("p", x))
		noLiteral(t, "no place", atom("p", x, v("S")))
		noLiteral(t, "no place", not("p", x, addr("a")))
	}
}

func TestRuleP2(t *testing.T) {
	wantRule(t, api.Rule{
		Label: "r1", Head: "path", Args: []api.Term{v("S"), v("D"), v("C")}, Agg: "min", At: 2,
		Body: []api.Literal{atom("link", v("S"), v("D"), v("C")), compared("<", op("+", v("C"), num(1)), num(10)), not("cut", v("S"), v("D"))},
	}, "r1 path(@S,D,min<C>) :- link(@S,D,C), (C+1) < 10, !cut(@S,D).")
	wantRule(t, api.Rule{
		Label: "min", Head: "count", Args: []api.Term{addr("a"), addr("min"), op("+", v("X"), num(1))},
		Body: []api.Literal{set("X", num(1))},
	}, "min count(@a,min,(X+1)) :- X := 1.")
	for _, name := range relations() {
		r := rule([]api.Term{v("S")}, atom("p", v("S")))
		r.Label = name
		wantRule(t, r, name+" h(@S) :- p(@S).")
		r.Label, r.Head = "r", name
		wantRule(t, r, "r "+name+"(@S) :- p(@S).")
	}
	for n := 1; n <= api.MaxArity; n++ {
		wantRule(t, rule(slices.Repeat([]api.Term{v("S")}, n), atom("p", v("S"))), "r h(@S"+strings.Repeat(",S", n-1)+") :- p(@S).")
	}
	for n := 1; n <= api.MaxBody; n++ {
		wantRule(t, rule([]api.Term{v("S")}, slices.Repeat([]api.Literal{atom("p", v("S"))}, n)...), "r h(@S) :- p(@S)"+strings.Repeat(", p(@S)", n-1)+".")
	}
}

func TestAggregatesP2(t *testing.T) {
	for _, agg := range []string{"min", "max", "count"} {
		for n := 2; n <= api.MaxArity; n++ {
			for at := 1; at < n; at++ {
				r := rule(slices.Repeat([]api.Term{v("X")}, n), atom("p", v("X")))
				r.Agg, r.At = agg, at
				wantRule(t, r, "r h(@X"+strings.Repeat(",X", at-1)+","+agg+"<X>"+strings.Repeat(",X", n-1-at)+") :- p(@X).")
			}
			for _, at := range []int{0, -1, n, n + 1, 1 << 40, -1 << 63, 1<<63 - 1} {
				r := rule(slices.Repeat([]api.Term{v("X")}, n), atom("p", v("X")))
				r.Agg, r.At = agg, at
				noRule(t, fmt.Sprint(agg, " at ", at, " of ", n), r)
			}
		}
		for _, at := range []int{0, 1} {
			r := rule([]api.Term{v("S")}, atom("p", v("S")))
			r.Agg, r.At = agg, at
			noRule(t, agg+" of the place alone", r)
		}
		for _, x := range append(noPlaces(), addr("a")) {
			r := rule([]api.Term{v("S"), v("X"), x, v("Y")}, atom("p", v("S")))
			r.Agg, r.At = agg, 2
			noRule(t, agg+" of no variable", r)
			r.At = 1
			wantRule(t, r, "r h(@S,"+agg+"<X>,"+Term(x)+",Y) :- p(@S).")
		}
	}
	for _, agg := range []string{"avg", "Min", "min ", "minimum", "sum", "f_size", "<", "\xff"} {
		r := rule([]api.Term{v("S"), v("X")}, atom("p", v("S")))
		r.Agg, r.At = agg, 1
		noRule(t, agg, r)
	}
	for _, at := range []int{1, 2, -1} {
		r := rule([]api.Term{v("S"), v("X")}, atom("p", v("S")))
		r.At = at
		noRule(t, "a place of no aggregate", r)
	}
}

func TestWrongRuleP2(t *testing.T) {
	good := func() api.Rule { return rule([]api.Term{v("S"), v("X")}, atom("p", v("S"))) }
	for what, change := range map[string]func(*api.Rule){
		"no arguments": func(r *api.Rule) { r.Args = nil }, "9 arguments": func(r *api.Rule) { r.Args = slices.Repeat(r.Args[:1], 9) }, "a wrong argument": func(r *api.Rule) { r.Args[1] = v("x") },
		"no body": func(r *api.Rule) { r.Body = nil }, "an empty body": func(r *api.Rule) { r.Body = []api.Literal{} }, "a body of 9": func(r *api.Rule) { r.Body = slices.Repeat(r.Body, 9) }, "a body of many": func(r *api.Rule) { r.Body = slices.Repeat(r.Body, 1<<16) },
	} {
		r := good()
		change(&r)
		noRule(t, what, r)
	}
	noRule(t, "nothing", api.Rule{})
	for _, name := range noRelations() {
		r := good()
		r.Label = name
		noRule(t, "label "+name, r)
		r = good()
		r.Head = name
		noRule(t, "head "+name, r)
	}
	for _, x := range noPlaces() {
		noRule(t, "no place", rule([]api.Term{x}, atom("p", v("S"))))
		noRule(t, "no place", rule([]api.Term{x, v("S")}, atom("p", v("S"))))
	}
}

func TestTupleP2(t *testing.T) {
	a, one := api.Value{Kind: api.Addr, Text: "a"}, api.Value{Kind: api.Int, Int: 1}
	tuple := func(name string, l ...api.Value) api.Tuple { return api.Tuple{Name: name, Args: l} }
	wantTuple(t, tuple("link", a, api.Value{Kind: api.Addr, Text: "b"}, one), "link(@a,b,1).")
	wantTuple(t, tuple("p", a, api.Value{Kind: api.Text, Text: "x y"}, api.Value{Kind: api.List, List: []api.Value{a, one, {Kind: api.List}}}), `p(@a,"x y",[a,1,[]]).`)
	wantTuple(t, tuple("p", api.Value{Kind: api.Addr, Text: "f_cons"}, api.Value{Kind: api.Addr, Text: "f_size"}), "p(@f_cons,f_size).") // a tuple's values are no terms
	wantTuple(t, tuple("p", api.Value{Kind: api.Addr, Text: "abcdefghijklmnop"}), "p(@abcdefghijklmnop).")
	for n := 1; n <= api.MaxArity; n++ {
		wantTuple(t, tuple("p", slices.Repeat([]api.Value{a}, n)...), "p(@a"+strings.Repeat(",a", n-1)+").")
	}
	for _, name := range relations() {
		wantTuple(t, tuple(name, a), name+"(@a).")
	}
	for _, name := range noRelations() {
		noTuple(t, "relation "+name, tuple(name, a))
	}
	noTuple(t, "nothing", api.Tuple{})
	noTuple(t, "no values", tuple("p"))
	noTuple(t, "9 values", tuple("p", slices.Repeat([]api.Value{a}, 9)...))
	noTuple(t, "many values", tuple("p", slices.Repeat([]api.Value{a}, 1<<16)...))
	for _, x := range []api.Value{one, {Kind: api.Text, Text: "a"}, {Kind: api.List, List: []api.Value{a}}, {Kind: api.List}} {
		noTuple(t, "no address ahead", tuple("p", x))
		noTuple(t, "no address ahead", tuple("p", x, a))
	}
	for _, x := range wrongValues() {
		noTuple(t, "wrong value", tuple("p", x))
		noTuple(t, "wrong value", tuple("p", a, x))
		noTuple(t, "wrong value", tuple("p", a, one, x, one))
	}
}

// whole is a program with all kinds of parts; each call makes it anew.
func whole() api.Program {
	a, one := api.Value{Kind: api.Addr, Text: "a"}, api.Value{Kind: api.Int, Int: 1}
	return api.Program{
		Decls: []api.Decl{{Name: "link", Arity: 3}, {Name: "path", Arity: 4}, {Name: "link", Arity: 8}},
		Facts: []api.Tuple{
			{Name: "link", Args: []api.Value{a, {Kind: api.Addr, Text: "b"}, one}},
			{Name: "other", Args: []api.Value{a, {Kind: api.Text, Text: "a, b"}, {Kind: api.List, List: []api.Value{one, a}}}},
		},
		Rules: []api.Rule{
			{
				Label: "r1", Head: "path", Args: []api.Term{v("S"), v("D"), call("f_cons", v("S"), listOf(a)), v("C")}, Agg: "min", At: 3,
				Body: []api.Literal{atom("link", v("S"), v("D"), v("C")), not("cut", v("S"), v("D")), compared("!=", v("S"), v("D")), set("X", op("+", v("C"), num(1)))},
			},
			{Label: "r1", Head: "q", Args: []api.Term{addr("a"), num(-1)}, Body: []api.Literal{compared("<=", num(0), op("-", call("f_size", v("L")), num(1)))}},
		},
	}
}

const wholeText = "materialize(link,3).\nmaterialize(path,4).\nmaterialize(link,8).\n" +
	"link(@a,b,1).\nother(@a,\"a, b\",[1,a]).\n" +
	"r1 path(@S,D,f_cons(S,[a]),min<C>) :- link(@S,D,C), !cut(@S,D), S != D, X := (C+1).\n" +
	"r1 q(@a,-1) :- 0 <= (f_size(L)-1).\n"

func TestPrintP3(t *testing.T) {
	wantProgram(t, whole(), wholeText)
	for i, want := range []string{"materialize(link,3).\nmaterialize(path,4).\nmaterialize(link,8).\n", "link(@a,b,1).\nother(@a,\"a, b\",[1,a]).\n"} {
		p := whole()
		p.Rules = nil
		if i == 0 {
			p.Facts = nil
		} else {
			p.Decls = nil
		}
		wantProgram(t, p, want)
	}
	for _, name := range relations() {
		for n := 1; n <= api.MaxArity; n++ {
			wantProgram(t, api.Program{Decls: []api.Decl{{Name: name, Arity: n}}}, fmt.Sprintf("materialize(%s,%d).\n", name, n))
		}
	}
}

// TestSizesP1: 64 of each, and one more.
func TestSizesP1(t *testing.T) {
	p := whole()
	p.Decls, p.Facts, p.Rules = slices.Repeat(p.Decls[:1], 64), slices.Repeat(p.Facts[:1], 64), slices.Repeat(p.Rules[1:], 64)
	wantProgram(t, p, strings.Repeat("materialize(link,3).\n", 64)+strings.Repeat("link(@a,b,1).\n", 64)+strings.Repeat("r1 q(@a,-1) :- 0 <= (f_size(L)-1).\n", 64))
	for what, change := range map[string]func(*api.Program){
		"decls": func(p *api.Program) { p.Decls = slices.Repeat(p.Decls[:1], 65) },
		"facts": func(p *api.Program) { p.Facts = slices.Repeat(p.Facts[:1], 65) },
		"rules": func(p *api.Program) { p.Rules = slices.Repeat(p.Rules[:1], 65) },
	} {
		q := p
		change(&q)
		noProgram(t, "65 "+what, q)
		q = api.Program{Decls: p.Decls[:1], Facts: p.Facts[:1], Rules: p.Rules[:1]}
		change(&q)
		noProgram(t, "65 "+what+" alone", q)
	}
}

func TestWrongDeclP1(t *testing.T) {
	bad := []api.Decl{{}, {Name: "p"}, {Name: "p", Arity: 9}, {Name: "p", Arity: -1}, {Name: "p", Arity: 1<<32 + 1}, {Name: "p", Arity: 1<<63 - 1}, {Name: "p", Arity: -1 << 63}}
	for _, name := range noRelations() {
		bad = append(bad, api.Decl{Name: name, Arity: 1})
	}
	for _, d := range bad {
		for i := range 3 {
			p := whole()
			p.Decls[i] = d
			noProgram(t, fmt.Sprint(d), p)
		}
		noProgram(t, fmt.Sprint(d), api.Program{Decls: []api.Decl{d}})
	}
}

// TestOnePartP1: a program is not right, if one part of it is not.
func TestOnePartP1(t *testing.T) {
	for what, change := range map[string]func(*api.Program){
		"first decl": func(p *api.Program) { p.Decls[0].Arity = 0 }, "last decl": func(p *api.Program) { p.Decls[2].Name = "materialize" },
		"first fact": func(p *api.Program) { p.Facts[0].Args[0] = p.Facts[0].Args[2] }, "last fact": func(p *api.Program) { p.Facts[1].Name = "f_size" },
		"first rule": func(p *api.Program) { p.Rules[0].At = 4 }, "last rule": func(p *api.Program) { p.Rules[1].Body = nil },
		"last literal": func(p *api.Program) { p.Rules[0].Body[3].Args[0].Args[1] = addr("f_last") }, "literal": func(p *api.Program) { p.Rules[0].Body[1].Kind = 5 },
	} {
		p := whole()
		change(&p)
		noProgram(t, what, p)
	}
}

// like tells whether two things are the same, lists without elements being alike.
func like(a, b reflect.Value) bool {
	switch a.Kind() {
	case reflect.Struct:
		for i := range a.NumField() {
			if !like(a.Field(i), b.Field(i)) {
				return false
			}
		}
		return true
	case reflect.Slice:
		if a.Len() != b.Len() {
			return false
		}
		for i := range a.Len() {
			if !like(a.Index(i), b.Index(i)) {
				return false
			}
		}
		return true
	}
	return a.Interface() == b.Interface()
}

func alike(p, q api.Program) bool { return like(reflect.ValueOf(p), reflect.ValueOf(q)) }

// leaves goes through all that is in a program: numbers, texts, and lists as wholes.
func leaves(x reflect.Value, visit func(reflect.Value)) {
	switch x.Kind() {
	case reflect.Struct:
		for i := range x.NumField() {
			leaves(x.Field(i), visit)
		}
	case reflect.Slice:
		visit(x)
		for i := range x.Len() {
			leaves(x.Index(i), visit)
		}
	default:
		visit(x)
	}
}

// others are what may stand in the place of a leaf.
func others(x reflect.Value) []reflect.Value {
	var out []reflect.Value
	switch x.Kind() {
	case reflect.Int:
		n := int(x.Int())
		for _, m := range []int{-1, 0, 1, 2, 3, 4, 5, 8, n + 1, n - 1, -n, 10 * n} {
			out = append(out, reflect.ValueOf(m))
		}
	case reflect.String:
		for _, s := range []string{"", "a", "b", "p", "link", "X", "S", "C", "min", "max", "count", "+", "-", "*", "==", "<", "<=", "f_size", "f_rest", "f_cons", "f_append", "1", "a,b", x.String() + "1", x.String() + " "} {
			out = append(out, reflect.ValueOf(s))
		}
	case reflect.Slice:
		n := x.Len()
		out = append(out, reflect.MakeSlice(x.Type(), 0, 0), reflect.MakeSlice(x.Type(), 1, 1))
		for i := range n {
			cut, twice, swapped := reflect.MakeSlice(x.Type(), 0, n), reflect.MakeSlice(x.Type(), 0, n+1), reflect.MakeSlice(x.Type(), 0, n)
			cut = reflect.AppendSlice(reflect.AppendSlice(cut, x.Slice(0, i)), x.Slice(i+1, n))
			twice = reflect.AppendSlice(reflect.AppendSlice(twice, x.Slice(0, i+1)), x.Slice(i, n))
			swapped = reflect.AppendSlice(reflect.AppendSlice(swapped, x.Slice(i, n)), x.Slice(0, i))
			out = append(out, cut, twice, swapped)
		}
	}
	return out
}

// distinct keeps each text's program, and holds against it each one that comes with this text.
type distinct map[string]api.Program

func (d distinct) add(t *testing.T, p api.Program) bool {
	t.Helper()
	s := Print(p)
	if !Right(p) {
		if s != "" {
			t.Errorf("%q, of what is not right", s)
		}
		return false
	}
	if q, ok := d[s]; ok && !alike(p, q) {
		t.Errorf("%q: %+v and %+v", s, p, q)
	}
	d[s] = p
	return true
}

// TestChangedP4: whatever one thing is changed in a program, it isn't right, or its text is another one.
func TestChangedP4(t *testing.T) {
	seen := distinct{}
	right, wrong := 0, 0
	p := whole()
	leaves(reflect.ValueOf(&p).Elem(), func(x reflect.Value) {
		was := reflect.ValueOf(x.Interface())
		for _, y := range others(was) {
			x.Set(y)
			if like(x, was) {
				continue
			}
			if Print(p) == wholeText {
				t.Errorf("%v in the place of %v tells the same", y, was)
			}
			if seen.add(t, copyOf(p)) {
				right++
			} else {
				wrong++
			}
		}
		x.Set(was)
	})
	if !alike(p, whole()) || Print(p) != wholeText {
		t.Fatal("the program did not stay")
	}
	if right < 300 || wrong < 300 {
		t.Errorf("%d right ones and %d wrong ones are too few", right, wrong)
	}
}

// copyOf is a program with lists of its own.
func copyOf(p api.Program) api.Program {
	out := reflect.New(reflect.TypeOf(p)).Elem()
	out.Set(reflect.ValueOf(p))
	leaves(out, func(x reflect.Value) {
		if x.Kind() == reflect.Slice {
			l := reflect.MakeSlice(x.Type(), x.Len(), x.Len())
			reflect.Copy(l, x)
			x.Set(l)
		}
	})
	return out.Interface().(api.Program)
}

// drawer draws parts out of few words, so that unlike ones come near one another.
type drawer struct{ seed uint32 }

func (d *drawer) below(k int) int {
	d.seed = d.seed*1664525 + 1013904223
	return int(d.seed>>16) % k
}

func (d *drawer) of(l ...string) string { return l[d.below(len(l))] }

func (d *drawer) value(depth int) api.Value {
	switch k := d.below(5); {
	case k < 2:
		return value.Number(d.below(5) - 2)
	case k == 2:
		return value.Text(d.of("", "a", "1", "X", ",", "a,1", "), p(@S"))
	case k == 3 || depth < 1:
		return value.Addr(d.of("a", "p", "min", "f_size"))
	}
	v := value.List(nil)
	for range d.below(3) {
		v.List = append(v.List, d.value(depth-1))
	}
	return v
}

func (d *drawer) term(depth int) api.Term {
	switch k := d.below(6); {
	case k < 2 || depth < 1:
		return v(d.of("S", "X", "Y"))
	case k < 4:
		return c(d.value(2))
	case k == 4:
		return op(d.of("+", "-", "*"), d.term(depth-1), d.term(depth-1))
	}
	name := d.of("f_cons", "f_append", "f_size", "f_rest")
	args := []api.Term{d.term(depth - 1), d.term(depth - 1)}
	return call(name, args[:functions()[name]]...)
}

func (d *drawer) args() []api.Term {
	out := []api.Term{v(d.of("S", "X"))}
	if d.below(3) == 0 {
		out[0] = addr(d.of("a", "p"))
	}
	for range d.below(3) {
		out = append(out, d.term(2))
	}
	return out
}

func (d *drawer) literal() api.Literal {
	switch d.below(4) {
	case 0:
		return not(d.of("p", "q"), d.args()...)
	case 1:
		return compared(d.of(comparers()...), d.term(2), d.term(2))
	case 2:
		return set(d.of("X", "Y"), d.term(2))
	}
	return atom(d.of("p", "q"), d.args()...)
}

func (d *drawer) program() api.Program {
	var p api.Program
	for range d.below(3) / 2 {
		p.Decls = append(p.Decls, api.Decl{Name: d.of("p", "q"), Arity: 1 + d.below(2)})
	}
	for range d.below(3) / 2 {
		p.Facts = append(p.Facts, api.Tuple{Name: d.of("p", "q"), Args: []api.Value{value.Addr(d.of("a", "p")), d.value(2)}[:1+d.below(2)]})
	}
	for range d.below(3) {
		r := api.Rule{Label: d.of("p", "min"), Head: d.of("p", "q"), Args: d.args()}
		if k := len(r.Args) - 1; d.below(2) == 0 && r.Args[k].Kind == api.TermVar && k > 0 {
			r.Agg, r.At = d.of("min", "max", "count"), k
		}
		for range 1 + d.below(2) {
			r.Body = append(r.Body, d.literal())
		}
		p.Rules = append(p.Rules, r)
	}
	return p
}

func TestDrawnP4(t *testing.T) {
	d := &drawer{seed: 1}
	seen := distinct{}
	right := 0
	for range 20000 {
		if seen.add(t, d.program()) {
			right++
		}
	}
	if right < 10000 || right == 20000 || len(seen) < 5000 || len(seen) > right-1000 {
		t.Errorf("%d right ones with %d texts are too few of one kind", right, len(seen))
	}
}

// TestMemory: rule R3, what is handed in is not written into, nor what stands behind its length; nor does an answer hang on what comes after it.
func TestMemory(t *testing.T) {
	roomy := func() api.Program {
		p := copyOf(whole())
		leaves(reflect.ValueOf(&p).Elem(), func(x reflect.Value) {
			if x.Kind() == reflect.Slice {
				n := x.Len()
				l := reflect.MakeSlice(x.Type(), n, n+2)
				reflect.Copy(l, x)
				x.Set(l)
			}
		})
		return p
	}
	spare := func(p api.Program) bool {
		clean := true
		leaves(reflect.ValueOf(p), func(x reflect.Value) {
			if x.Kind() == reflect.Slice {
				l := x.Slice(0, x.Cap())
				for i := x.Len(); i < l.Len(); i++ {
					clean = clean && l.Index(i).IsZero()
				}
			}
		})
		return clean
	}
	p := roomy()
	s := Print(p)
	for _, r := range p.Rules {
		Rule(r)
		for _, l := range r.Body {
			Literal(l)
			for _, x := range l.Args {
				Term(x)
			}
		}
	}
	for _, x := range p.Facts {
		Tuple(x)
	}
	if !Right(p) || !alike(p, whole()) || !spare(p) {
		t.Error("the argument was written into")
	}
	p.Rules[0].Label, p.Facts[0].Args[0].Text = "z", "z"
	Print(p)
	noProgram(t, "nothing but a rule", api.Program{Rules: make([]api.Rule, 1)})
	if s != wholeText {
		t.Errorf("an answer changed: %q", s)
	}
}

// TestEnds: terms and values that hold themselves are refused.
func TestEnds(t *testing.T) {
	for name, n := range functions() {
		x := call(name, make([]api.Term, n)...)
		for i := range x.Args {
			x.Args[i] = x
		}
		noTerm(t, "a call of itself", x)
	}
	x := op("+", make([]api.Term, 2)...)
	x.Args[0], x.Args[1] = x, x
	noTerm(t, "an op of itself", x)
	y := listOf(make([]api.Value, 1)...)
	y.Value.List[0] = y.Value
	noTerm(t, "a list of itself", y)
	noTuple(t, "a list of itself", api.Tuple{Name: "p", Args: []api.Value{{Kind: api.Addr, Text: "a"}, y.Value}})
}

// TestGreatest: what has most in it is still told whole.
func TestGreatest(t *testing.T) {
	x, s := v("ABCDEFGHIJKLMNOP"), "ABCDEFGHIJKLMNOP"
	for range api.MaxTerm - 1 {
		x, s = call("f_concat", x, x), "f_concat("+s+","+s+")"
	}
	name := "abcdefghijklmnop"
	args := append([]api.Term{v("S")}, slices.Repeat([]api.Term{x}, 7)...)
	told := name + "(@S" + strings.Repeat(","+s, 7) + ")"
	r := api.Rule{Label: name, Head: name, Args: args, Body: slices.Repeat([]api.Literal{not(name, args...)}, 8)}
	want := name + " " + told + " :- !" + told + strings.Repeat(", !"+told, 7) + "."
	wantRule(t, r, want)
	wantProgram(t, api.Program{Rules: slices.Repeat([]api.Rule{r}, 64)}, strings.Repeat(want+"\n", 64))
}
