package scope

import (
	"maps"
	"reflect"
	"slices"
	"strconv"
	"strings"
	"testing"

	"beaconry/api"
	"beaconry/printer"
)

func TestVarsS1(t *testing.T) {
	for s, want := range map[string]string{
		"X": "X", "Min": "Min", "S_1": "S_1", "ABCDEFGHIJKLMNOP": "ABCDEFGHIJKLMNOP",
		"0": "", "-3": "", `"X"`: "", `"f_rest(X)"`: "", "a": "", "x": "", "[]": "", `[1,["X",a]]`: "", "f_rest([a])": "", "(1+f_size([]))": "",
		"(X+Y)": "X Y", "(Y-X)": "Y X", "(X*X)": "X", "(1+X)": "X", "(X+1)": "X", "(Xa+X)": "Xa X", "(X+Xa)": "X Xa",
		"f_size(L)": "L", "f_cons(X,L)": "X L", "f_cons(L,X)": "L X", "f_concat(L,L)": "L",
		"((X+Y)+(Y+Z))": "X Y Z", "((Z+Y)+(Y+X))": "Z Y X", "(X+(Y+(Z+(Y+X))))": "X Y Z", "((((X+Y)+Z)+Y)+W)": "X Y Z W",
		"f_cons((X+Y),f_concat(L,f_cons(X,[a])))": "X Y L", "f_append(f_rest(f_rest(B)),((A*A)-B))": "B A",
		"f_first(f_first(f_first(f_first(f_first(f_first(f_first(X)))))))": "X", "(1+(2+(3+(4+(5+(6+(Y+X)))))))": "Y X",
		`f_cons("X",f_cons(x,f_cons(Y,[])))`: "Y",
	} {
		if got := Vars(term(t, s)); strings.Join(got, " ") != want {
			t.Errorf("%s: %q, not %q", s, got, want)
		}
	}
}

// TestVarsOfAnyTermS1: a term need not be right; what is a variable within it is told, whatever stands around.
func TestVarsOfAnyTermS1(t *testing.T) {
	x, y, two := v("X"), v("Y"), []api.Term{v("Y"), v("X")}
	list := api.Value{Kind: api.List, List: []api.Value{{Kind: api.Text, Text: "Y"}}}
	for i, c := range []struct {
		t    api.Term
		want []string
	}{
		{api.Term{}, nil}, {api.Term{Name: "X"}, nil}, {api.Term{Kind: 5, Name: "X"}, nil}, {api.Term{Kind: -1, Name: "X"}, nil}, {api.Term{Kind: 1<<32 + 1, Name: "X"}, nil}, {api.Term{Args: []api.Term{}}, nil},
		{api.Term{Kind: api.TermValue, Name: "X", Value: list}, nil}, {api.Term{Kind: api.TermCall, Name: "X"}, nil}, {api.Term{Kind: api.TermOp, Name: "X"}, nil},
		{v(""), []string{""}}, {v("x"), []string{"x"}}, {v("f_size"), []string{"f_size"}}, {v("X\xff"), []string{"X\xff"}}, {v(strings.Repeat("X", 1<<10)), []string{strings.Repeat("X", 1<<10)}},
		{api.Term{Kind: api.TermVar, Name: "X", Value: list}, []string{"X"}},
		{api.Term{Kind: api.TermOp, Name: "/", Args: two}, []string{"Y", "X"}}, {api.Term{Kind: api.TermOp, Args: []api.Term{x}}, []string{"X"}}, {api.Term{Kind: api.TermOp, Args: []api.Term{y, x, y, v("Z")}}, []string{"Y", "X", "Z"}},
		{api.Term{Kind: api.TermCall, Name: "f", Args: two}, []string{"Y", "X"}}, {api.Term{Kind: api.TermCall, Name: "f_size", Args: append(two, two...)}, []string{"Y", "X"}},
		{op(api.Term{Kind: 9, Name: "Z"}, x), []string{"X"}}, {op(v(""), op(x, v(""))), []string{"", "X"}},
		{api.Term{Args: two}, []string{"Y", "X"}}, {api.Term{Kind: api.TermValue, Args: two}, []string{"Y", "X"}}, {api.Term{Kind: api.TermVar, Name: "Z", Args: two}, []string{"Z", "Y", "X"}}, {api.Term{Kind: api.TermVar, Name: "X", Args: two}, []string{"X", "Y"}},
	} {
		if got := Vars(c.t); !slices.Equal(got, c.want) {
			t.Errorf("%d: %q, not %q", i, got, c.want)
		}
	}
}

// TestGreatTermsS1: deep and wide ones, each variable twice.
func TestGreatTermsS1(t *testing.T) {
	const n = 1 << 16
	var want []string
	for i := range n {
		want = append(want, "X"+strconv.Itoa(i))
	}
	var wide []api.Term
	for i := range 2 * n {
		wide = append(wide, v(want[i%n]))
	}
	if got := Vars(api.Term{Kind: api.TermCall, Name: "f", Args: wide}); !slices.Equal(got, want) {
		t.Error("wide:", len(got))
	}
	ahead, behind := v("Y"), v("Y")
	for _, name := range want {
		ahead, behind = op(v(name), ahead), op(behind, v(name))
	}
	if got := Vars(behind); len(got) != n+1 || got[0] != "Y" || !slices.Equal(got[1:], want) {
		t.Error("deep in the first part:", len(got))
	}
	slices.Reverse(want)
	if got := Vars(ahead); len(got) != n+1 || got[n] != "Y" || !slices.Equal(got[:n], want) {
		t.Error("deep in the last part:", len(got))
	}
}

func TestVarsMemoryS1(t *testing.T) {
	x := term(t, "f_cons((X+Y),f_cons(X,f_cons(Z,[a])))")
	first, second := Vars(x), Vars(x)
	first[0] = "W"
	_ = append(first[:1], "V", "U", "T", "S")
	if want := []string{"X", "Y", "Z"}; !slices.Equal(second, want) || !slices.Equal(Vars(x), want) || !reflect.DeepEqual(x, term(t, "f_cons((X+Y),f_cons(X,f_cons(Z,[a])))")) {
		t.Error(second, Vars(x), printer.Term(x))
	}
}

func TestArityS2(t *testing.T) {
	p := parsed(t, declared+"materialize(long,8). materialize(p,5). materialize(q,1). materialize(l,7). x(@a). r y(@S) :- z(@S).")
	for name, want := range map[string]int{
		"p": 2, "q": 1, "l": 3, "long": 8, // of those that are twice the first one
		"": 0, "r": 0, "x": 0, "y": 0, "z": 0, "a": 0, "S": 0, "lo": 0, "long1": 0, "P": 0, "p ": 0, "f_size": 0, "materialize": 0, "\xff": 0,
	} {
		if got := Arity(p, name); got != want {
			t.Errorf("%q: %d, not %d", name, got, want)
		}
	}
	if n := Arity(api.Program{}, "p"); n != 0 {
		t.Error(n)
	}
}

// TestArityOfAnyProgramS2: a program need not be right.
func TestArityOfAnyProgramS2(t *testing.T) {
	decl := func(name string, n int) api.Decl { return api.Decl{Name: name, Arity: n} }
	p := api.Program{Decls: []api.Decl{{}, decl("", 3), decl("P", 9), decl("p", 0), decl("p", 2), decl("q", -1), decl("q", 2), decl("f_size", 1), decl("p\xff", 4)}, Rules: make([]api.Rule, 65)}
	for name, want := range map[string]int{"": 0, "P": 9, "p": 0, "q": -1, "f_size": 1, "p\xff": 4, "p\xfe": 0} {
		if got := Arity(p, name); got != want {
			t.Errorf("%q: %d, not %d", name, got, want)
		}
	}
	p = api.Program{Decls: append(slices.Repeat([]api.Decl{decl("p", 1)}, 1<<16), decl("q", 7))}
	if n := Arity(p, "q"); n != 7 {
		t.Error(n)
	}
}

type want struct {
	e api.Errno
	n int
}

// checked holds Check against what is wanted of texts, p having 2 arguments there, q 1 and l 3.
func checked(t *testing.T, all map[string]want) {
	t.Helper()
	for s, w := range all {
		if e, n := Check(parsed(t, declared+s)); e != w.e || n != w.n {
			t.Errorf("%s: %d %d, not %d %d", s, e, n, w.e, w.n)
		}
	}
}

func TestNothingWrongS3(t *testing.T) {
	good := want{api.OK, -1}
	checked(t, map[string]want{
		"": good, "p(@a,1). q(@b). l(@a,[],\"X\"). q(@b).": good,
		"r p(@S,X) :- p(@S,X).": good, "r q(@a) :- q(@b).": good, "r q(@a) :- 1 == 1.": good, "r q(@a) :- !q(@a).": good, "r q(@a) :- X := 1.": good,
		"r q(@S) :- q(@S), X := 1, Y := (X+1), p(@S,(Y+X)), (X+Y) < f_size(Y), !l(@S,f_cons(X,[]),Y).":                              good,
		"q(@a). r p(@S,f_cons(X,f_cons(Y,[]))) :- l(@S,X,Y), q(@S), !p(@S,X). s l(@S,X,count<Y>) :- l(@S,X,Y). p q(@S) :- p(@S,S).": good,
	})
	for _, p := range []api.Program{{}, {Decls: []api.Decl{}, Facts: []api.Tuple{}, Rules: []api.Rule{}}} {
		if e, n := Check(p); e != api.OK || n != -1 {
			t.Error(e, n)
		}
	}
}

// TestWrongProgramS3: what is not right by chapter 4 is told ahead of all else, wherever it stands.
func TestWrongProgramS3(t *testing.T) {
	for what, spoil := range map[string]func(p *api.Program){
		"a relation's name":   func(p *api.Program) { p.Decls[2].Name = "P" },
		"a function as one":   func(p *api.Program) { p.Decls[2].Name = "f_size" },
		"materialize as one":  func(p *api.Program) { p.Decls[2].Name = "materialize" },
		"no arguments":        func(p *api.Program) { p.Decls[2].Arity = 0 },
		"nine arguments":      func(p *api.Program) { p.Decls[2].Arity = 9 },
		"no decl":             func(p *api.Program) { p.Decls[2] = api.Decl{} },
		"too many decls":      func(p *api.Program) { p.Decls = slices.Repeat(p.Decls, 22) },
		"a fact's name":       func(p *api.Program) { p.Facts[1].Name = "" },
		"no fact":             func(p *api.Program) { p.Facts[1] = api.Tuple{} },
		"a fact at a number":  func(p *api.Program) { p.Facts[1].Args[0] = api.Value{Kind: api.Int} },
		"a fact's value":      func(p *api.Program) { p.Facts[0].Args[1] = api.Value{} },
		"too many facts":      func(p *api.Program) { p.Facts = slices.Repeat(p.Facts, 33) },
		"a label":             func(p *api.Program) { p.Rules[1].Label = "" },
		"a head's name":       func(p *api.Program) { p.Rules[1].Head = "H" },
		"a head without args": func(p *api.Program) { p.Rules[1].Args = nil },
		"a head at a number": func(p *api.Program) {
			p.Rules[1].Args[0] = api.Term{Kind: api.TermValue, Value: api.Value{Kind: api.Int}}
		},
		"an aggregate":        func(p *api.Program) { p.Rules[1].Agg = "sum" },
		"an aggregate at 0":   func(p *api.Program) { p.Rules[1].Agg = "min" },
		"At without one":      func(p *api.Program) { p.Rules[1].At = 1 },
		"no body":             func(p *api.Program) { p.Rules[1].Body = nil },
		"too long a body":     func(p *api.Program) { p.Rules[1].Body = slices.Repeat(p.Rules[1].Body[:1], 9) },
		"no literal":          func(p *api.Program) { p.Rules[1].Body[1] = api.Literal{} },
		"a variable's name":   func(p *api.Program) { p.Rules[1].Body[0].Args[1].Name = "x" },
		"a term's kind":       func(p *api.Program) { p.Rules[1].Body[0].Args[1].Kind = 5 },
		"no variable is set":  func(p *api.Program) { p.Rules[1].Body[1].Name = "y" },
		"a call of none":      func(p *api.Program) { p.Rules[1].Body[1].Args[0].Name = "f_none" },
		"a call of too many":  func(p *api.Program) { p.Rules[1].Body[1].Args[0].Args = []api.Term{v("X"), v("X")} },
		"too deep a term":     func(p *api.Program) { p.Rules[1].Body[1].Args[0] = deep(8) },
		"far too deep a term": func(p *api.Program) { p.Rules[1].Body[1].Args[0] = deep(1 << 16) },
		"too many rules":      func(p *api.Program) { p.Rules = slices.Repeat(p.Rules, 33) },
	} {
		for s, w := range map[string]want{
			declared + "p(@a,1). q(@a). r q(@S) :- q(@S). s p(@S,Y) :- p(@S,X), Y := f_size(X).":                              {api.OK, -1},
			declared + "p(@a,1). q(@a,1). r q(@S) :- q(@S). s p(@S,Y) :- p(@S,X), Y := f_size(X).":                            {api.ErrArity, -1},
			declared + "p(@a,1). q(@a). r q(@S,X) :- q(@S). s p(@S,Y) :- p(@S,X), Y := f_size(X).":                            {api.ErrArity, 0},
			declared + "p(@a,1). q(@a). r q(@D) :- q(@S). s p(@S,Y) :- p(@S,X), Y := f_size(X).":                              {api.ErrBound, 0},
			declared + "p(@a,1). q(@a). r q(@S) :- q(@S). s p(@S,Y) :- p(@S,X), X := f_size(X).":                              {api.ErrAgain, 1},
			"materialize(p,2).materialize(p,2)." + declared + "p(@a,1).q(@a).r q(@S):-q(@S).s p(@S,Y):-p(@S,X),Y:=f_size(X).": {api.ErrArity, -1},
		} {
			p := parsed(t, s)
			if e, n := Check(p); e != w.e || n != w.n {
				t.Errorf("%s: %d %d", s, e, n)
			}
			spoil(&p)
			if e, n := Check(p); e != api.ErrProgram || n != -1 {
				t.Errorf("%s, %s: %d %d", what, s, e, n)
			}
		}
	}
}

// deep is a term with so many ones around a variable.
func deep(n int) api.Term {
	x := v("X")
	for range n {
		x = api.Term{Kind: api.TermCall, Name: "f_rest", Args: []api.Term{x}}
	}
	return x
}

func TestRelationsS3(t *testing.T) {
	none, first, second := want{api.ErrArity, -1}, want{api.ErrArity, 0}, want{api.ErrArity, 1}
	checked(t, map[string]want{
		// Two of one name, next to one another or not, with as many arguments or not.
		"materialize(l,3).": none, "materialize(l,2).": none, "materialize(p,2).": none, "materialize(p,1).": none, "materialize(r,1). materialize(s,1). materialize(r,1).": none, "materialize(r,1). materialize(s,1).": {api.OK, -1},
		// Facts.
		"x(@a).": none, "p(@a).": none, "p(@a,1,1).": none, "q(@a,1).": none, "l(@a,1).": none, "l(@a,1,1,1).": none, "q(@a). x(@a).": none, "x(@a). q(@a).": none, "q(@a). q(@a,1). q(@a).": none,
		"s(@a). s q(@S) :- q(@S).": none, "f(@a). materialize(f,1).": {api.OK, -1},
		// Heads.
		"r x(@S) :- q(@S).": first, "r p(@S) :- q(@S).": first, "r p(@S,S,S) :- q(@S).": first, "r q(@S,S) :- q(@S).": first, "r r(@S) :- q(@S).": first, "r x(@a) :- q(@a).": first, "r l(@S,min<X>) :- p(@S,X).": first,
		// Atoms and LitNots: the first one, one between, the last one.
		"r q(@S) :- x(@S).": first, "r q(@S) :- q(@S), p(@S), q(@S).": first, "r q(@S) :- q(@S), q(@S), q(@S,S).": first, "r q(@S) :- p(@S,S,S).": first,
		"r q(@a) :- !x(@a).": first, "r q(@S) :- q(@S), !p(@S).": first, "r q(@S) :- q(@S), !p(@S,S,S), q(@S).": first, "r q(@S) :- q(@S), q(@S), !l(@S).": first, "r q(@S) :- q(@S), !r(@S).": first,
		// Tests and settings have no relation.
		"r q(@S) :- q(@S), 1 == 1, X := 1.": {api.OK, -1},
		// Which rule.
		"r q(@S) :- q(@S). s x(@S) :- q(@S).": second, "r q(@S) :- q(@S). s q(@S) :- x(@S). t x(@S) :- q(@S).": second, "r x(@S) :- q(@S). s q(@S) :- x(@S).": first,
	})
}

func TestAtomsS3(t *testing.T) {
	good, bad := want{api.OK, -1}, want{api.ErrBound, 0}
	checked(t, map[string]want{
		// By none.
		"r q(@S) :- p(@S,(X+1)).": bad, "r q(@S) :- p(@S,(1+X)).": bad, "r q(@S) :- p(@S,f_size(X)).": bad, "r q(@S) :- p(@S,f_cons(1,f_cons(2,f_cons(X,[])))).": bad, "r q(@S) :- l(@S,(X+1),(X+1)).": bad, "r q(@S) :- l(@S,X,(X+Y)).": bad, "r q(@S) :- l(@S,(Y+X),X).": bad,
		// By itself, whichever stands first.
		"r q(@S) :- l(@S,X,(X+1)).": good, "r q(@S) :- l(@S,(X+1),X).": good, "r q(@S) :- p(@S,f_cons(S,[])).": good, "r q(@S) :- l(@S,X,f_cons(X,f_cons((S+X),[]))).": good,
		// By one ahead: an atom, a setting.
		"r q(@S) :- p(@S,X), p(@S,(X+1)).": good, "r q(@S) :- X := 1, p(@S,(X+1)).": good, "r q(@S) :- p(@S,X), q(@S), l(@S,(X+1),f_size(X)).": good,
		// By a later one alone, or by one that binds nothing.
		"r q(@S) :- p(@S,(X+1)), p(@S,X).": bad, "r q(@S) :- p(@S,(X+1)), X := 1.": bad, "r q(@S) :- !p(@S,X), p(@S,X).": bad, "r q(@S) :- l(@S,(X+1),1), l(@S,X,(X+1)).": bad,
		// What stands within an argument is not bound by that.
		"r p(@S,X) :- p(@S,f_size(X)).": bad, "r q(@S) :- l(@S,X,(X+1)), X == 1.": good, "r q(@S) :- l(@S,(X+1),X), p(@S,(X+2)).": good,
		// The place, and variables that are bound again.
		"r q(@S) :- q(@S), q(@S), p(@D,S), p(@S,D).": good, "r q(@X) :- p(@S,X), p(@X,S).": good, "r q(@a) :- p(@a,S), q(@S).": good,
	})
}

func TestNotsAndTestsS3(t *testing.T) {
	good, bad := want{api.OK, -1}, want{api.ErrBound, 0}
	checked(t, map[string]want{
		"r q(@S) :- q(@S), !p(@S,X).": bad, "r q(@S) :- q(@S), !p(@X,S).": bad, "r q(@S) :- q(@S), !q(@X).": bad, "r q(@S) :- q(@S), !l(@S,S,f_size((X+1))).": bad, "r q(@S) :- q(@S), !l(@S,X,X).": bad,
		"r q(@S) :- p(@S,X), !p(@S,X).": good, "r q(@S) :- p(@S,X), !p(@X,f_size(X)).": good, "r q(@S) :- q(@S), X := 1, !p(@S,X).": good, "r q(@S) :- q(@S), !q(@S).": good, "r q(@S) :- q(@S), !p(@a,1).": good, "r q(@a) :- !q(@a), !q(@a).": good,
		// A later one alone binds it.
		"r q(@S) :- !q(@S), q(@S).": bad, "r q(@S) :- q(@S), !p(@S,X), p(@S,X).": bad, "r q(@S) :- q(@S), !p(@S,X), X := 1.": bad, "r q(@S) :- q(@S), !p(@S,X), !p(@S,X).": bad,
		// LitNot binds nothing, nor does a test.
		"r p(@S,X) :- q(@S), !p(@S,X).": bad, "r q(@S) :- q(@S), X == X, X == 1.": bad, "r p(@S,X) :- q(@S), X == 1.": bad,

		"r q(@S) :- q(@S), X == 1.": bad, "r q(@S) :- q(@S), 1 != X.": bad, "r q(@S) :- q(@S), S < (1+X).": bad, "r q(@S) :- q(@S), f_size(f_rest(X)) <= S.": bad, "r q(@S) :- q(@S), X > Y.": bad, "r q(@S) :- p(@S,X), X >= Y.": bad, "r q(@S) :- p(@S,X), Y >= X.": bad,
		"r q(@S) :- p(@S,X), X == 1.": good, "r q(@S) :- p(@S,X), 1 != X.": good, "r q(@S) :- p(@S,X), S < (X+X).": good, "r q(@S) :- q(@S), X := 1, X >= X.": good, "r q(@a) :- 1 < 2.": good, "r q(@S) :- q(@S), S == S.": good,
		"r q(@S) :- X < 3, p(@S,X).": bad, "r q(@S) :- q(@S), X < 3, X := 1.": bad, "r q(@S) :- q(@S), 3 < X, p(@S,X).": bad,
	})
}

func TestSettingsS3(t *testing.T) {
	good, bad, again := want{api.OK, -1}, want{api.ErrBound, 0}, want{api.ErrAgain, 0}
	checked(t, map[string]want{
		"r p(@S,Y) :- p(@S,X), Y := (X+1).": good, "r p(@S,Y) :- q(@S), Y := 1.": good, "r p(@S,Z) :- q(@S), X := S, Y := X, Z := Y.": good, "r p(@a,X) :- X := 1.": good, "r q(@S) :- S := a, q(@S).": good,
		"r p(@S,Y) :- q(@S), Y := X.": bad, "r p(@S,Y) :- q(@S), Y := f_size((S+X)).": bad, "r p(@S,Y) :- q(@S), Y := X, X := 1.": bad, "r p(@S,Y) :- q(@S), Y := X, p(@S,X).": bad, "r p(@S,Y) :- q(@S), !p(@S,S), Y := X.": bad,
		// Its own variable is not bound by itself within its term.
		"r p(@S,Y) :- q(@S), Y := Y.": bad, "r p(@S,Y) :- p(@S,X), Y := (Y+X).": bad, "r p(@S,Y) :- p(@S,X), Y := (X+f_size(Y)).": bad,
		"r p(@S,X) :- p(@S,X), X := 1.": again, "r q(@S) :- q(@S), S := a.": again, "r p(@S,X) :- q(@S), X := 1, X := 1.": again, "r p(@S,X) :- p(@S,X), X := X.": again, "r q(@S) :- l(@S,X,Y), X := (X+Y).": again, "r q(@S) :- q(@S), X := 1, q(@S), X := 2.": again,
		// Where both are wrong.
		"r p(@S,X) :- p(@S,X), X := Y.": bad, "r p(@S,X) :- p(@S,X), X := (X+Y).": bad, "r p(@S,X) :- q(@S), X := 1, X := f_size(Y).": bad,
		// A later one binds it then, and may.
		"r p(@S,X) :- X := 1, p(@S,X).": good, "r p(@S,X) :- q(@S), X := 1, p(@S,X), l(@S,X,(X+1)).": good, "r q(@S) :- p(@S,f_cons(S,[])), X := 1.": good,
		// LitNots and tests bind nothing, so they do not stand in the way either.
		"r q(@S) :- q(@S), !q(@S), 1 < 2, X := 1.": good,
	})
}

func TestHeadsS3(t *testing.T) {
	good, bad := want{api.OK, -1}, want{api.ErrBound, 0}
	checked(t, map[string]want{
		"r p(@S,X) :- q(@S).": bad, "r q(@D) :- q(@S).": bad, "r p(@X,S) :- q(@S).": bad, "r l(@S,S,X) :- q(@S).": bad, "r p(@S,f_cons(X,[])) :- q(@S).": bad, "r p(@S,(1+f_size((S-X)))) :- q(@S).": bad, "r p(@a,X) :- q(@a).": bad, "r q(@S) :- q(@a).": bad,
		"r p(@S,min<X>) :- q(@S).": bad, "r l(@S,count<X>,S) :- q(@S).": bad, "r l(@S,count<S>,X) :- q(@S).": bad, "r p(@S,max<X>) :- p(@S,(X+1)).": bad,
		"r p(@S,min<X>) :- p(@S,X).": good, "r l(@S,count<X>,Y) :- l(@S,Y,X).": good, "r p(@S,f_cons(X,[])) :- p(@S,X).": good, "r p(@X,S) :- p(@S,X).": good, "r p(@S,\"X\") :- q(@S).": good, "r p(@S,(X+Y)) :- q(@S), X := 1, Y := 2.": good, "r q(@a) :- p(@S,X).": good,
	})
}

// TestOrderS3: what comes first, in a rule and from rule to rule.
func TestOrderS3(t *testing.T) {
	bound, again, arity := want{api.ErrBound, 0}, want{api.ErrAgain, 0}, want{api.ErrArity, 0}
	checked(t, map[string]want{
		// In a rule: relations ahead of literals, literals one by one, the head's variables last.
		"r q(@S) :- q(@S), X == 1, x(@S).": arity, "r q(@S) :- q(@S), S := 1, !x(@S).": arity, "r x(@D) :- q(@S).": arity, "r q(@D) :- q(@S), X == 1, p(@S).": arity, "r q(@S,X) :- p(@S,(X+1)).": arity,
		"r q(@S) :- q(@S), S := 1, X == 1.": again, "r q(@S) :- q(@S), X == 1, S := 1.": bound, "r q(@D) :- q(@S), S := 1.": again, "r q(@S) :- q(@S), S := 1, p(@S,f_size(X)).": again, "r q(@S) :- p(@S,f_size(X)), S := 1.": bound, "r q(@S) :- q(@S), S := 1, !p(@S,X).": again, "r q(@S) :- q(@S), !p(@S,X), S := 1.": bound,
		"r q(@S) :- q(@S), S := 1, X := Y.": again, "r q(@S) :- q(@S), X := Y, S := 1.": bound,
		// From rule to rule: the first rule with anything, whatever it is.
		"r q(@D) :- q(@S). s x(@S) :- q(@S).": bound, "r q(@S) :- q(@S), S := 1. s q(@D) :- q(@S). t x(@S) :- q(@S).": again, "r x(@S) :- q(@S). s q(@D) :- q(@S). t q(@S) :- q(@S), S := 1.": arity,
		"r q(@S) :- q(@S). s q(@S) :- q(@S), S := 1. t q(@D) :- q(@S).": {api.ErrAgain, 1}, "r q(@S) :- q(@S). s q(@S) :- q(@S). t q(@D) :- q(@S). u x(@S) :- q(@S).": {api.ErrBound, 2}, "r q(@S) :- q(@S). r q(@S) :- q(@S). r q(@S) :- q(@S). r x(@D) :- q(@S).": {api.ErrArity, 3},
		// What one rule binds counts for nothing in the next one.
		"r p(@S,X) :- p(@S,X). s p(@S,X) :- q(@S).": {api.ErrBound, 1}, "r p(@S,X) :- p(@S,X). s p(@S,X) :- q(@S), X := 1.": {api.OK, -1}, "r p(@S,X) :- X := 1, p(@S,X). s p(@S,X) :- X := 1, p(@S,X).": {api.OK, -1},
		// Relations and facts ahead of rules.
		"r x(@D) :- q(@S). x(@a).": {api.ErrArity, -1}, "r q(@D) :- q(@S). materialize(q,1).": {api.ErrArity, -1}, "r q(@S) :- q(@S), S := 1. q(@a,1).": {api.ErrArity, -1}, "r q(@D) :- q(@S). q(@a).": bound,
	})
}

// TestMostS3: as many of everything as there may be, and where the last one alone is wrong.
func TestMostS3(t *testing.T) {
	var s strings.Builder
	for i := range api.MaxRules {
		s.WriteString("materialize(p" + strconv.Itoa(i) + ",8). p" + strconv.Itoa(i) + "(@a,1,2,3,4,5,6,7). r p" + strconv.Itoa(i) + "(@A,B,C,D,E,F,G,H) :- p0(@A,B,C,D,E,F,G,(H+1)), X := 1, X == 1, !p0(@A,B,C,D,E,F,G,H), p0(@A,B,C,D,E,F,G,A), p0(@A,B,C,D,E,F,G,B), p0(@A,B,C,D,E,F,G,C), p0(@A,B,C,D,E,F,G,D).\n")
	}
	p := parsed(t, strings.ReplaceAll(s.String(), ",(H+1))", ",H)"))
	if e, n := Check(p); e != api.OK || n != -1 {
		t.Error(e, n)
	}
	for what, w := range map[string]want{"fact": {api.ErrArity, -1}, "decl": {api.ErrArity, -1}, "head": {api.ErrBound, 63}, "literal": {api.ErrArity, 63}, "argument": {api.ErrBound, 63}, "setting": {api.ErrAgain, 63}} {
		bad := copied(p)
		last := &bad.Rules[63]
		switch what {
		case "fact":
			bad.Facts[63].Args = bad.Facts[63].Args[:7]
		case "decl":
			bad.Decls[63] = bad.Decls[0]
		case "head":
			last.Args[7] = v("Z")
		case "literal":
			last.Body[7].Args = last.Body[7].Args[:7]
		case "argument":
			last.Body[7].Args[7] = deep(7)
			last.Body[7].Args[7].Args[0].Args[0].Args[0].Args[0].Args[0].Args[0].Args[0] = v("Z")
		case "setting":
			last.Body[7] = api.Literal{Kind: api.LitAssign, Name: "H", Args: []api.Term{v("H")}}
		}
		if e, n := Check(bad); e != w.e || n != w.n {
			t.Errorf("%s: %d %d", what, e, n)
		}
	}
	if e, n := Check(parsed(t, s.String())); e != api.ErrBound || n != 0 {
		t.Error(e, n)
	}
}

// drawn hands on programs, right and wrong ones.
func drawn(t *testing.T, n int, do func(p api.Program)) {
	t.Helper()
	d := drawer{dice(), 30}
	for range n {
		do(parsed(t, d.program()))
	}
}

// TestDrawnS3 holds Check, and Vars, against what S3 and S1 ask for, told another way.
func TestDrawnS3(t *testing.T) {
	seen := map[want]int{}
	drawn(t, 20000, func(p api.Program) {
		e, n := asked(p)
		seen[want{e, n}]++
		before := copied(p)
		if got, at := Check(p); got != e || at != n {
			t.Fatalf("%s: %d %d, not %d %d", printer.Print(p), got, at, e, n)
		}
		if !reflect.DeepEqual(p, before) {
			t.Fatalf("%s: written into", printer.Print(before))
		}
		for _, r := range p.Rules {
			for _, x := range r.Args {
				once := slices.Compact(slices.Sorted(slices.Values(read(x))))
				if got := Vars(x); !slices.Equal(slices.Sorted(slices.Values(got)), once) || !slices.IsSortedFunc(got, byPlace(read(x))) {
					t.Fatalf("%s: %q", printer.Term(x), got)
				}
			}
		}
	})
	for _, w := range []want{{api.OK, -1}, {api.ErrArity, -1}, {api.ErrArity, 0}, {api.ErrArity, 1}, {api.ErrBound, 0}, {api.ErrBound, 1}, {api.ErrBound, 2}, {api.ErrAgain, 0}, {api.ErrAgain, 1}} {
		if seen[w] < 20 {
			t.Error("hardly drawn:", w, seen)
		}
	}
}

// byPlace puts names in the order in which they first stand in l.
func byPlace(l []string) func(a, b string) int {
	return func(a, b string) int { return slices.Index(l, a) - slices.Index(l, b) }
}

// TestTakenAwayS4: what is right stays so without some of its rules.
func TestTakenAwayS4(t *testing.T) {
	found := 0
	drawn(t, 5000, func(p api.Program) {
		if e, _ := Check(p); e != api.OK {
			return
		}
		for which := range 1 << len(p.Rules) {
			less := p
			less.Rules = nil
			for i, r := range p.Rules {
				if which>>i&1 == 1 {
					less.Rules = append(less.Rules, r)
				}
			}
			if len(less.Rules) < len(p.Rules) {
				found++
			}
			if e, n := Check(less); e != api.OK || n != -1 {
				t.Fatalf("%s: %d %d", printer.Print(less), e, n)
			}
		}
	})
	if found < 1000 {
		t.Error("hardly any:", found)
	}
}

// TestLastTakenAwayS4: what is right stays so without the last literals that bind nothing, as long as one is left.
func TestLastTakenAwayS4(t *testing.T) {
	found := map[int]int{}
	drawn(t, 10000, func(p api.Program) {
		if e, _ := Check(p); e != api.OK {
			return
		}
		for i, r := range p.Rules {
			less := copied(p)
			for len(r.Body) > 1 && idle(r) {
				found[r.Body[len(r.Body)-1].Kind]++
				r.Body = r.Body[:len(r.Body)-1]
				less.Rules[i] = r
				if e, n := Check(less); e != api.OK || n != -1 {
					t.Fatalf("%s: %d %d", printer.Print(less), e, n)
				}
			}
		}
	})
	for _, kind := range []int{api.LitAtom, api.LitNot, api.LitTest} {
		if found[kind] < 50 {
			t.Error("hardly any:", found)
		}
	}
}

// idle tells whether a rule's last literal binds nothing, that is: nothing that is not bound ahead of it.
func idle(r api.Rule) bool {
	k := len(r.Body) - 1
	last := r.Body[k]
	if last.Kind == api.LitAssign {
		return false
	}
	for _, x := range last.Args {
		if last.Kind == api.LitAtom && x.Kind == api.TermVar && unbound(r, k, x) {
			return false
		}
	}
	return true
}

// TestNamesS4: names of variables count for nothing, of right programs and of others.
func TestNamesS4(t *testing.T) {
	seen := map[api.Errno]int{}
	drawn(t, 3000, func(p api.Program) {
		e, n := Check(p)
		seen[e]++
		for _, to := range []map[string]string{{"S": "X", "X": "Y", "Y": "Z", "Z": "S"}, {"S": "A", "X": "Xy", "Y": "X_", "Z": "ABCDEFGHIJKLMNOP"}, {"S": "P", "X": "S1", "Y": "S2", "Z": "S"}} {
			other := changed(p, func(name string) string { return to[name] })
			if got, at := Check(other); got != e || at != n {
				t.Fatalf("%s: %d %d; %s: %d %d", printer.Print(p), e, n, printer.Print(other), got, at)
			}
			for i, r := range p.Rules {
				for k, x := range r.Args {
					names := each(Vars(x), func(name string) string { return to[name] })
					if got := Vars(other.Rules[i].Args[k]); !slices.Equal(got, names) {
						t.Fatalf("%q, not %q", got, names)
					}
				}
			}
		}
	})
	if len(seen) != 4 {
		t.Error("not all drawn:", slices.Collect(maps.Keys(seen)))
	}
	// One name for two is another program.
	checked(t, map[string]want{"r p(@S,Y) :- p(@S,X), Y := 1.": {api.OK, -1}, "r p(@S,X) :- p(@S,X), X := 1.": {api.ErrAgain, 0}})
}
