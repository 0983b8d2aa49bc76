package locate

import (
	"fmt"
	"reflect"
	"slices"
	"strconv"
	"strings"
	"testing"

	"beaconry/api"
	"beaconry/printer"
	"beaconry/scope"
)

// placed asks for the places of rules; what they want is From, To and Head, or no, and it is held against the promise told another way, too.
func placed(t *testing.T, l map[string]string) {
	t.Helper()
	for s, want := range l {
		r := rule(t, s)
		got, ok := Place(r)
		told := "no"
		if ok {
			told = got.From + " " + got.To + " " + got.Head
		}
		if told != want || !ok && got != (api.Place{}) {
			t.Errorf("%s: %q %v, not %s", s, got, ok, want)
		}
		if other, also := asked(t, r); other != got || also != ok {
			t.Errorf("%s: %q %v, told another way: %q %v", s, got, ok, other, also)
		}
	}
}

func TestOneNodeL1(t *testing.T) {
	placed(t, map[string]string{
		"p(@S) :- q(@S)": "S  S", "p(@S) :- q(@S), !t(@S), q(@S,1)": "S  S", "p(@Min_1) :- q(@Min_1)": "Min_1  Min_1", "p(@ABCDEFGHIJKLMNOP) :- q(@ABCDEFGHIJKLMNOP)": "ABCDEFGHIJKLMNOP  ABCDEFGHIJKLMNOP",
		"p(@S,X) :- q(@S,X), X := 1, 1 < X, t(@S,(X+1))": "S  S", "p(@S) :- link(@S,D,C)": "S  S", "p(@S) :- link(@S)": "S  S", "p(@S) :- X := 1, q(@S), X == 1": "S  S",
		// The head's place is where a link leads to: the link stands first, last, between.
		"p(@D) :- link(@S,D)": "S  D", "p(@D,S) :- link(@S,D,C)": "S  D", "p(@D) :- q(@S,D), link(@S,D,C)": "S  D", "p(@D) :- link(@S,D,C), q(@S)": "S  D", "p(@D) :- q(@S), link(@S,D,1), !q(@S)": "S  D", "p(@D) :- link(@S,Z), link(@S,E), link(@S,D)": "S  D", "p(@E) :- link(@S,Z), link(@S,E), link(@S,D)": "S  E",
		"p(@D) :- link(@S,D,1,2,3,4,5,6)": "S  D", "p(@S) :- link(@S,S)": "S  S", "p(@S) :- !q(@S), link(@S,S,S)": "S  S",
		// No link leads there.
		"p(@D) :- q(@S,D)": "no", "p(@D) :- q(@S), t(@S,D)": "no", "p(@D) :- link(@S,E), q(@S,D)": "no", "p(@D) :- link(@S,S,D)": "no", "p(@D) :- link(@S)": "no", "p(@D) :- q(@S)": "no", "p(@D) :- link(@S,d)": "no",
		"p(@D) :- link(@S,E,C), !link(@S,D,C)": "no", "p(@D) :- q(@S), !link(@S,D)": "no", "p(@D) :- D := S, q(@S)": "no", "p(@D) :- q(@S), D == S": "no",
	})
}

func TestTwoNodesL1(t *testing.T) {
	placed(t, map[string]string{
		"p(@S) :- link(@S,D), q(@D)": "S D S", "p(@D) :- link(@S,D), q(@D)": "S D D", "p(@S,X) :- link(@S,D,C), q(@D,X)": "S D S", "p(@D) :- q(@D), link(@S,D)": "S D D", "p(@S) :- q(@D), link(@S,D)": "S D S", "p(@S) :- q(@S), q(@D), q(@S), link(@S,D), q(@D)": "S D S",
		// LitNots are places, too, of atoms' nodes or not.
		"p(@S) :- link(@S,D), !q(@D)": "S D S", "p(@D) :- link(@S,D), !q(@D)": "S D D", "p(@D) :- !q(@D), link(@S,D)": "S D D", "p(@S) :- link(@S,D), q(@D), !q(@S), !q(@D)": "S D S", "p(@S) :- q(@S), !q(@D)": "no", "p(@S) :- link(@S,D), q(@D), !q(@Z)": "no", "p(@S) :- link(@S,D,Z), !q(@Z)": "no", "p(@D) :- q(@D), !link(@S,D)": "no",
		// A link the other way.
		"p(@S) :- link(@D,S), q(@S)": "D S S", "p(@D) :- link(@D,S), q(@S)": "D S D", "p(@S) :- q(@S), q(@D), link(@D,S)": "D S S",
		// Both ways: the first one.
		"p(@S) :- link(@S,D), link(@D,S)": "S D S", "p(@S) :- link(@D,S), link(@S,D)": "D S S", "p(@D) :- q(@S), q(@D), link(@S,D), q(@S), link(@D,S)": "S D D", "p(@D) :- q(@S), q(@D), link(@D,S), q(@S), link(@S,D)": "D S D",
		"p(@S) :- link(@S,D,1), link(@D,S,1), link(@S,D,2), link(@D,S,2)": "S D S", "p(@S) :- link(@D,S,1), link(@D,S,2), link(@S,D,1), link(@S,D,2)": "D S S", "p(@S) :- link(@D,S,1), link(@S,D,1), link(@S,D,2), link(@D,S,1)": "D S S", "p(@S) :- link(@S,D,1), link(@D,S,1), link(@D,S,1), link(@S,D,2)": "S D S",
		// Ahead of it others that are between others, or none.
		"p(@S) :- link(@S,Z), link(@S,S), link(@D,E), link(@D,D), link(@D,S), link(@S,D)": "D S S", "p(@S) :- !link(@D,S), link(@S,D)": "S D S", "p(@S) :- link(@D,s), link(@D), link(@D,E,S), link(@S,D)": "S D S", "p(@S) :- t(@D,S), link(@S,D)": "S D S", "p(@S) :- link(@D,f_first(S)), link(@S,D)": "S D S",
		// None of the two.
		"p(@S) :- q(@S), q(@D)": "no", "p(@S) :- q(@S,D), q(@D,S)": "no", "p(@D) :- link(@S,Z), q(@D)": "no", "p(@S) :- link(@S,S), link(@D,D)": "no", "p(@S) :- link(@S,E,D), q(@D)": "no", "p(@S) :- q(@S), q(@D), !link(@S,D), !link(@D,S)": "no", "p(@S) :- q(@S), q(@D), S == D": "no",
		// The head's place is neither, a link leading there or not.
		"p(@Z) :- link(@S,D), q(@D,Z)": "no", "p(@Z) :- link(@S,D), link(@S,Z), q(@D)": "no", "p(@Z) :- link(@S,D), link(@D,Z)": "no", "p(@Z) :- link(@S,D,Z), link(@D,S,Z)": "no", "p(@Z) :- link(@S,D), q(@D)": "no",
	})
}

func TestMoreNodesL1(t *testing.T) {
	placed(t, map[string]string{
		"p(@S) :- link(@S,D), q(@D), q(@Z)": "no", "p(@S) :- link(@S,D), link(@D,Z), link(@Z,S)": "no", "p(@S) :- link(@S,D), link(@S,Z), link(@D,S), link(@Z,S), link(@D,Z), link(@Z,D)": "no", "p(@S) :- q(@S), q(@D), link(@S,D), !q(@Z)": "no",
		"p(@A) :- q(@A), q(@B), q(@C), q(@D), q(@E), q(@F), q(@G), q(@H)": "no", "p(@A) :- link(@A,B), link(@B,A), link(@A,B), link(@B,A), link(@A,B), link(@B,A), link(@A,B), q(@C)": "no",
	})
}

func TestPlacesThatAreNoVariablesL1(t *testing.T) {
	placed(t, map[string]string{
		"p(@a) :- q(@S)": "no", "p(@a) :- link(@S,a)": "no", "p(@a) :- q(@a)": "no", "p(@a) :- link(@S,D), q(@D)": "no",
		"p(@S) :- q(@a)": "no", "p(@S) :- q(@a,S)": "no", "p(@S) :- q(@S), q(@a)": "no", "p(@S) :- q(@a), q(@S)": "no", "p(@S) :- link(@a,S), q(@S)": "no", "p(@S) :- link(@S,D), q(@D), link(@a,D)": "no", "p(@S) :- q(@S), q(@a), q(@S)": "no",
		"p(@S) :- q(@S), !q(@a)": "no", "p(@S) :- !q(@a), q(@S)": "no", "p(@S) :- q(@S), !link(@a,S)": "no", "p(@S) :- link(@S,D), !q(@D), !q(@a)": "no", "p(@S) :- link(@S,a), q(@a)": "no",
		// What is no place may be no variable.
		"p(@S,a) :- q(@S,a), !q(@S,a), 1 == a, X := a": "S  S", "p(@S,(1+2)) :- link(@S,a), q(@S,f_size([]))": "S  S",
	})
}

func TestHeadIsLinkL1(t *testing.T) {
	placed(t, map[string]string{
		"link(@S) :- q(@S)": "no", "link(@S,D,C) :- link(@S,D,C)": "no", "link(@D,S,C) :- link(@S,D,C)": "no", "link(@S,D) :- link(@S,D), q(@D)": "no", "link(@S,count<D>) :- q(@S,D)": "no",
		"links(@S) :- q(@S)": "S  S", "lin(@S) :- q(@S)": "S  S", "link_(@S) :- q(@S)": "S  S", "p(@S,link) :- q(@S,link)": "S  S",
	})
	r := rule(t, "p(@S) :- q(@S)")
	r.Label = api.Link
	if p, ok := Place(r); !ok || p != (api.Place{From: "S", Head: "S"}) {
		t.Error("a label is no head:", p, ok)
	}
}

func TestNoAtomL1(t *testing.T) {
	placed(t, map[string]string{
		"p(@S) :- !q(@S)": "no", "p(@S) :- !q(@S), !q(@S)": "no", "p(@S) :- 1 == 1": "no", "p(@S) :- S := a": "no", "p(@D) :- !link(@S,D)": "no", "p(@S) :- !link(@S,D), !q(@D)": "no", "p(@S) :- S := a, !q(@S), S == a": "no", "p(@S) :- f_size(S) == S": "no", "p(@S,count<S>) :- !q(@S)": "no",
		"p(@S) :- !q(@S), q(@S)": "S  S",
	})
}

// TestWhatIsALinkL1: to a head's place, and between two places.
func TestWhatIsALinkL1(t *testing.T) {
	for s, is := range map[string]bool{
		"link(@S,D)": true, "link(@S,D,C)": true, "link(@S,D,D,S)": true, "link(@S,D,1,a,[],\"x\",(S+D),f_size(D))": true,
		"link(@D,S)": false, "!link(@S,D)": false, "!link(@S,D,C)": false, "link(@S)": false, "link(@S,S)": false, "link(@S,S,D)": false, "link(@S,d,D)": false, "link(@S,\"D\")": false, "link(@S,(D+0))": false, "link(@S,f_first(D))": false, "link(@S,[])": false, "link(@S,d)": false, "link(@S,E)": false, "link(@S,Da)": false,
		"links(@S,D)": false, "lin(@S,D)": false, "t(@S,D)": false, "S == D": false, "D := S": false, "S < \"link(@S,D)\"": false,
	} {
		for _, body := range []string{"q(@S), " + s, s + ", q(@S)", "q(@S), " + s + ", q(@S,D)"} {
			want := map[bool]string{true: "S  D", false: "no"}[is]
			if s == "link(@D,S)" {
				want = "D S D"
			}
			placed(t, map[string]string{"p(@D) :- " + body: want})
		}
		for _, body := range []string{"q(@S), q(@D), " + s, s + ", q(@S), q(@D)", "q(@D), " + s + ", q(@S)"} {
			want := map[bool]string{true: "S D S", false: "no"}[is]
			if s == "link(@D,S)" {
				want = "D S S"
			}
			placed(t, map[string]string{"p(@S) :- " + body: want})
		}
	}
	// A name's kind counts, too: of a test, of what is set.
	for _, kind := range []int{api.LitTest, api.LitAssign} {
		r := rule(t, "p(@D) :- q(@S), link(@S,D)")
		r.Body[1].Kind = kind
		if p, ok := Place(r); ok || p != (api.Place{}) {
			t.Error(kind, p, ok)
		}
	}
}

func TestAggregatesL1(t *testing.T) {
	for _, agg := range []string{"min", "max", "count"} {
		for s, want := range map[string]string{
			// To is empty, and the head's place From.
			"p(@S,AGG<X>) :- q(@S,X)": "S  S", "p(@S,AGG<S>) :- q(@S)": "S  S", "p(@S,1,AGG<C>) :- link(@S,D,C)": "S  S", "p(@S,AGG<D>) :- link(@S,D,C), !q(@S), C < 1": "S  S", "p(@S,1,2,3,4,5,6,AGG<X>) :- q(@S,X)": "S  S",
			// To is empty, and the head's place another one.
			"p(@D,AGG<C>) :- link(@S,D,C)": "no", "p(@D,AGG<S>) :- link(@S,D), q(@S)": "no", "p(@D,S,AGG<C>) :- q(@S,C), link(@S,D)": "no", "p(@D,AGG<C>) :- q(@S,C)": "no",
			// To is not empty, whatever the head's place is.
			"p(@S,AGG<X>) :- link(@S,D), q(@D,X)": "no", "p(@D,AGG<X>) :- link(@S,D), q(@D,X)": "no", "p(@S,AGG<X>) :- link(@S,D,X), !q(@D)": "no", "p(@S,AGG<X>) :- link(@S,D,X), link(@D,S,X)": "no", "p(@Z,AGG<X>) :- link(@S,D,X), link(@D,Z,X)": "no",
		} {
			placed(t, map[string]string{strings.ReplaceAll(s, "AGG", agg): want})
		}
	}
}

// TestWrongRuleL1: of a rule that is not right by chapter 4 nothing is told, wherever it would be.
func TestWrongRuleL1(t *testing.T) {
	for _, s := range []string{"p(@S,X) :- q(@S,X)", "p(@D,X) :- link(@S,D), q(@S,X)", "p(@S,X) :- link(@S,D), q(@D,X)", "p(@S,count<X>) :- q(@S,X), t(@S)"} {
		for what, spoil := range map[string]func(r *api.Rule){
			"nothing at all": func(r *api.Rule) { *r = api.Rule{} },
			"no label":       func(r *api.Rule) { r.Label = "" }, "label": func(r *api.Rule) { r.Label = "R" }, "label is a function": func(r *api.Rule) { r.Label = "f_cons" },
			"no head": func(r *api.Rule) { r.Head = "" }, "head": func(r *api.Rule) { r.Head = "P" }, "materialize": func(r *api.Rule) { r.Head = "materialize" }, "head is a function": func(r *api.Rule) { r.Head = "f_size" },
			"no arguments": func(r *api.Rule) { r.Args = nil }, "empty arguments": func(r *api.Rule) { r.Args = []api.Term{} }, "too many arguments": func(r *api.Rule) { r.Args = append(r.Args, slices.Repeat([]api.Term{v("X")}, 7)...) },
			"head's place has no name": func(r *api.Rule) { r.Args[0].Name = "" }, "head's place is not named so": func(r *api.Rule) { r.Args[0].Name = "s" }, "head's place is a number": func(r *api.Rule) { r.Args[0] = num(1) }, "head's place has a value": func(r *api.Rule) { r.Args[0].Value.Int = 1 }, "head's place has an argument": func(r *api.Rule) { r.Args[0].Args = []api.Term{v("S")} }, "head's place has no kind": func(r *api.Rule) { r.Args[0].Kind = 0 },
			"argument": func(r *api.Rule) { r.Args[1] = api.Term{} }, "aggregate": func(r *api.Rule) { r.Agg = "sum" }, "aggregate of the place": func(r *api.Rule) { r.Agg, r.At = "min", 0 }, "aggregate of none": func(r *api.Rule) { r.Agg, r.At = "min", 2 }, "aggregate of a number": func(r *api.Rule) { r.Agg, r.At, r.Args[1] = "min", 1, num(1) }, "number, no aggregate": func(r *api.Rule) { r.Agg, r.At = "", 1 },
			"no body": func(r *api.Rule) { r.Body = nil }, "empty body": func(r *api.Rule) { r.Body = []api.Literal{} }, "too long a body": func(r *api.Rule) { r.Body = append(r.Body, slices.Repeat(r.Body[:1], 8)...) },
			"literal without a kind": func(r *api.Rule) { r.Body[1%len(r.Body)].Kind = 0 }, "literal of a kind that is none": func(r *api.Rule) { r.Body[0].Kind = 5 }, "atom's name": func(r *api.Rule) { r.Body[0].Name = "Q" }, "atom without a name": func(r *api.Rule) { r.Body[0].Name = "" }, "atom without arguments": func(r *api.Rule) { r.Body[0].Args = nil }, "atom with too many": func(r *api.Rule) {
				r.Body[0].Args = append(r.Body[0].Args, slices.Repeat([]api.Term{v("X")}, 7)...)
			},
			"place is a number": func(r *api.Rule) { r.Body[0].Args[0] = num(1) }, "place is a variable that may not be": func(r *api.Rule) { r.Body[0].Args[0] = v("s") }, "place has no kind": func(r *api.Rule) { r.Body[0].Args[0] = api.Term{Name: "S"} }, "argument of an atom": func(r *api.Rule) { r.Body[0].Args = append(r.Body[0].Args, v("é")) },
			"LitNot without arguments": func(r *api.Rule) { r.Body = append(r.Body, api.Literal{Kind: api.LitNot, Name: "q"}) }, "LitNot's place": func(r *api.Rule) {
				r.Body = append(r.Body, api.Literal{Kind: api.LitNot, Name: "q", Args: []api.Term{{Kind: api.TermCall, Name: "f_size", Args: []api.Term{v("S")}}}})
			},
			"test": func(r *api.Rule) {
				r.Body = append(r.Body, api.Literal{Kind: api.LitTest, Name: "=", Args: []api.Term{v("S"), v("S")}})
			}, "setting": func(r *api.Rule) { r.Body = append(r.Body, api.Literal{Kind: api.LitAssign, Name: "Y"}) }, "kinds of literals apart": func(r *api.Rule) {
				r.Body = append(r.Body, api.Literal{Kind: api.LitAssign, Name: "y", Args: []api.Term{v("S")}})
			},
			"too deep": func(r *api.Rule) { r.Body[0].Args = append(r.Body[0].Args, deep(9)) },
			"endless":  func(r *api.Rule) { r.Body[0].Args = append(r.Body[0].Args, endless()) },
		} {
			r := rule(t, s)
			if _, ok := Place(r); !ok {
				t.Fatal(s)
			}
			spoil(&r)
			p, ok := Place(r)
			if ok || p != (api.Place{}) {
				t.Errorf("%s, %s: %q %v", s, what, p, ok)
			}
			program := parsed(t, "materialize(q,2). r q(@S,1) :- q(@S,X). s q(@S,2) :- q(@S,X).")
			program.Rules[1] = r
			if e, n := Check(program); e != api.ErrProgram || n != -1 {
				t.Errorf("%s, %s: %d %d", s, what, e, n)
			}
		}
	}
	// What is nearly too deep, and long, is right.
	r := rule(t, "p(@S) :- q(@S), q(@S), q(@S), q(@S), q(@S), q(@S), q(@S), link(@S,D,1,2,3,4,5)")
	r.Body[7].Args = append(r.Body[7].Args, deep(8))
	if p, ok := Place(r); !ok || p != (api.Place{From: "S", Head: "S"}) {
		t.Error(p, ok)
	}
}

// deep is a term so deep.
func deep(n int) api.Term {
	x := v("X")
	for range n - 1 {
		x = api.Term{Kind: api.TermCall, Name: "f_rest", Args: []api.Term{x}}
	}
	return x
}

// endless is a term that stands within itself.
func endless() api.Term {
	l := make([]api.Term, 1)
	l[0] = api.Term{Kind: api.TermCall, Name: "f_rest", Args: l}
	return l[0]
}

// TestDrawnL1 holds Place against what L1 asks for, told another way.
func TestDrawnL1(t *testing.T) {
	d := drawer{dice(), false}
	seen := map[string]int{}
	for range 20000 {
		p := parsed(t, "r "+d.rule()+".")
		before := copied(p)
		r := p.Rules[0]
		want, is := asked(t, r)
		got, ok := Place(r)
		if got != want || ok != is {
			t.Fatalf("%s: %q %v, not %q %v", printer.Rule(r), got, ok, want, is)
		}
		if !reflect.DeepEqual(p, before) {
			t.Fatalf("%s: written into", printer.Rule(before.Rules[0]))
		}
		seen[outcome(r, got)]++
	}
	for _, what := range []string{"none", "one node", "one node, over a link", "one node, aggregate", "two, head at the first", "two, head at the second", "two, both ways, head at the first", "two, both ways, head at the second"} {
		if seen[what] < 100 {
			t.Error("hardly drawn:", what, seen)
		}
	}
}

func outcome(r api.Rule, p api.Place) string {
	ways := ""
	if p.To != "" && firstLink(r, p.To, p.From) < len(r.Body) {
		ways = ", both ways"
	}
	switch {
	case p.Head == "":
		return "none"
	case p.To != "" && p.Head == p.From:
		return "two" + ways + ", head at the first"
	case p.To != "":
		return "two" + ways + ", head at the second"
	case p.Head != p.From:
		return "one node, over a link"
	case r.Agg != "":
		return "one node, aggregate"
	}
	return "one node"
}

// want is an error and a rule's number.
type want struct {
	e api.Errno
	n int
}

// checked asks for what is wrong with programs, behind some declarations.
func checked(t *testing.T, l map[string]want) {
	t.Helper()
	for s, w := range l {
		if e, n := Check(parsed(t, declared+s)); e != w.e || n != w.n {
			t.Errorf("%s: %d %d, not %d %d", s, e, n, w.e, w.n)
		}
	}
}

func TestCheckL2(t *testing.T) {
	good := want{api.OK, -1}
	place := func(n int) want { return want{api.ErrPlace, n} }
	checked(t, map[string]want{
		"": good, "q(@a).": good, "p(@a,1). link(@a,b,1).": good, "r q(@S) :- q(@S).": good, "r q(@D) :- link(@S,D,C). s p(@S,X) :- link(@S,D,C), p(@D,X). t p(@D,X) :- link(@S,D,C), p(@D,X). u p(@S,count<X>) :- p(@S,X).": good,
		"r p(@D,S) :- p(@S,D).": place(0), "r q(@a) :- q(@S).": place(0), "r q(@S) :- p(@a,S).": place(0), "r q(@S) :- q(@S), q(@D).": place(0), "r q(@S) :- link(@S,D,Z), q(@D), q(@Z).": place(0), "r q(@Z) :- link(@S,D,Z), q(@D).": place(0), "r q(@S) :- S := a.": place(0), "r q(@S) :- q(@S), !q(@a).": place(0), "r link(@S,D,1) :- link(@S,D,C).": place(0), "r p(@D,min<C>) :- link(@S,D,C).": place(0), "r p(@S,min<C>) :- link(@S,D,C), q(@D).": place(0), "r q(@S) :- S := a, !q(@S).": place(0),
		// The first of several.
		"r q(@S) :- q(@S). s q(@a) :- q(@S).": place(1), "r q(@a) :- q(@S). s q(@S) :- q(@S).": place(0), "r q(@a) :- q(@S). s q(@a) :- q(@S).": place(0), "r q(@S) :- q(@S). s q(@S) :- q(@S), q(@D). t q(@S) :- q(@S). u q(@a) :- q(@S).": place(1), "r q(@S) :- q(@S). s q(@D) :- link(@S,D,C). t q(@C) :- link(@S,D,C).": place(2),
		// Rules of one label, or one head, are rules by themselves.
		"r q(@S) :- q(@S). r q(@S) :- q(@S). r q(@a) :- q(@S). r q(@a) :- q(@S).": place(2),
	})
}

// TestWrongProgramL2: what chapter 6 has to say comes ahead of all places, whichever rule it is in.
func TestWrongProgramL2(t *testing.T) {
	checked(t, map[string]want{
		"materialize(p,2). r q(@a) :- q(@S).": {api.ErrArity, -1}, "p(@a). r q(@a) :- q(@S).": {api.ErrArity, -1}, "x(@a).": {api.ErrArity, -1},
		"r q(@a) :- x(@S).": {api.ErrArity, 0}, "r q(@a) :- q(@S). s x(@S) :- q(@S).": {api.ErrArity, 1}, "r q(@a) :- q(@S). s q(@S) :- q(@S). t q(@S) :- !x(@S).": {api.ErrArity, 2}, "r q(@S) :- link(@S,D).": {api.ErrArity, 0},
		"r q(@D) :- q(@S).": {api.ErrBound, 0}, "r q(@a) :- q(@S). s q(@D) :- q(@S).": {api.ErrBound, 1}, "r q(@a) :- q(@S). s q(@S) :- q(@S), X < 1. t q(@a) :- q(@S).": {api.ErrBound, 1}, "r q(@S) :- !q(@S).": {api.ErrBound, 0},
		"r q(@a) :- q(@S), S := a.": {api.ErrAgain, 0}, "r q(@a) :- q(@S). s q(@a) :- q(@S). t q(@S) :- q(@S), S := a.": {api.ErrAgain, 2},
	})
	for what, p := range map[string]api.Program{
		"a relation without a name": {Decls: []api.Decl{{Name: "", Arity: 1}}}, "a relation without arguments": {Decls: []api.Decl{{Name: "p"}}}, "an empty fact": {Facts: make([]api.Tuple, 1)}, "an empty rule": {Rules: make([]api.Rule, 1)}, "too many rules": {Decls: []api.Decl{{Name: "q", Arity: 1}}, Rules: slices.Repeat([]api.Rule{rule(t, "q(@S) :- q(@S)")}, api.MaxRules+1)},
		"a rule that has a place, and one that is not right": {Decls: []api.Decl{{Name: "q", Arity: 1}}, Rules: []api.Rule{rule(t, "q(@a) :- q(@S)"), {}}},
	} {
		if e, n := Check(p); e != api.ErrProgram || n != -1 {
			t.Errorf("%s: %d %d", what, e, n)
		}
	}
	if e, n := Check(api.Program{}); e != api.OK || n != -1 {
		t.Error(e, n)
	}
}

// TestMostL2: as many rules as there may be, and one of them, or all from it on, without a place.
func TestMostL2(t *testing.T) {
	var s strings.Builder
	for i := range api.MaxRules {
		s.WriteString("r" + strconv.Itoa(i) + " t(@D,X,C) :- q(@D), q(@S), X := 1, p(@S,C), !p(@D,X), link(@S,D,C), X < C, link(@D,S,X).\n")
	}
	good := parsed(t, declared+s.String())
	if e, n := Check(good); e != api.OK || n != -1 {
		t.Error(e, n)
	}
	for i := range good.Rules {
		bad := copied(good)
		bad.Rules[i].Args[0], bad.Rules[i].Args[1] = v("X"), v("D")
		if e, n := Check(bad); e != api.ErrPlace || n != i {
			t.Error(i, e, n)
		}
		for k := range bad.Rules[i:] {
			bad.Rules[i+k].Head, bad.Rules[i+k].Args[0] = api.Link, v("D")
		}
		if e, n := Check(bad); e != api.ErrPlace || n != i {
			t.Error(i, e, n)
		}
	}
}

// drawn hands on programs, right and wrong ones.
func drawn(t *testing.T, n int, do func(p api.Program)) {
	t.Helper()
	d := drawer{dice(), true}
	for range n {
		do(parsed(t, d.program()))
	}
}

func TestDrawnL2(t *testing.T) {
	seen := map[want]int{}
	drawn(t, 20000, func(p api.Program) {
		w := want{api.OK, -1}
		if e, n := scope.Check(p); e != api.OK {
			w = want{e, n}
		} else if n := slices.IndexFunc(p.Rules, func(r api.Rule) bool {
			_, ok := asked(t, r)
			return !ok
		}); n >= 0 {
			w = want{api.ErrPlace, n}
		}
		before := copied(p)
		if e, n := Check(p); e != w.e || n != w.n {
			t.Fatalf("%s: %d %d, not %d %d", printer.Print(p), e, n, w.e, w.n)
		}
		if e, n := Check(p); e != w.e || n != w.n || !reflect.DeepEqual(p, before) {
			t.Fatalf("%s: another answer %d %d, or written into", printer.Print(before), e, n)
		}
		if len(p.Rules) > 0 {
			seen[w]++
		}
	})
	for _, w := range []want{{api.OK, -1}, {api.ErrPlace, 0}, {api.ErrPlace, 1}, {api.ErrPlace, 2}, {api.ErrBound, 0}, {api.ErrBound, 1}, {api.ErrAgain, 0}, {api.ErrArity, 0}, {api.ErrArity, 1}} {
		if seen[w] < 20 {
			t.Error("hardly drawn:", w, seen)
		}
	}
}

// TestReadsAndSendsL3: one or two nodes are read at, and what is sent goes over a link of the body.
func TestReadsAndSendsL3(t *testing.T) {
	d := drawer{dice(), false}
	sent, two := 0, 0
	for range 20000 {
		r := rule(t, d.rule())
		p, ok := Place(r)
		if !ok {
			continue
		}
		at, _ := placesRead(r)
		slices.Sort(at)
		at = slices.Compact(at)
		want := []string{p.From, p.To}
		if p.To == "" {
			want = want[:1]
		}
		slices.Sort(want)
		if !slices.Equal(at, want) {
			t.Fatalf("%s reads at %q, not at %q", printer.Rule(r), at, want)
		}
		// From is where what is read at the two of them comes together, over their link, ahead of what follows there.
		for _, to := range []string{p.To, p.Head} {
			if to != "" && to != p.From && firstLink(r, p.From, to) == len(r.Body) {
				t.Fatalf("%s: no link from %s to %s", printer.Rule(r), p.From, to)
			}
		}
		if p.To != "" {
			two++
		}
		if p.Head != p.From {
			sent++
		}
	}
	if sent < 500 || two < 500 {
		t.Error("hardly any:", sent, two)
	}
}

// TestNamesL3: other names of variables, unlike ones for unlike ones, are in places as they are in rules, and change nothing else.
func TestNamesL3(t *testing.T) {
	seen := map[string]int{}
	drawn(t, 4000, func(p api.Program) {
		e, n := Check(p)
		seen[fmt.Sprint(e)]++
		for _, to := range []map[string]string{{"S": "D", "D": "Z", "Z": "X", "X": "S", "Y": "Y"}, {"S": "Z", "D": "S", "Z": "D", "X": "A", "Y": "B"}, {"S": "A", "D": "Ab", "Z": "A_", "X": "A1", "Y": "ABCDEFGHIJKLMNOP"}} {
			name := func(s string) string { return to[s] }
			other := changed(p, name)
			if got, at := Check(other); got != e || at != n {
				t.Fatalf("%s: %d %d; %s: %d %d", printer.Print(p), e, n, printer.Print(other), got, at)
			}
			for i, r := range p.Rules {
				was, ok := Place(r)
				got, also := Place(other.Rules[i])
				if got != (api.Place{From: name(was.From), To: name(was.To), Head: name(was.Head)}) || also != ok {
					t.Fatalf("%s: %q %v; %s: %q %v", printer.Rule(r), was, ok, printer.Rule(other.Rules[i]), got, also)
				}
				seen[fmt.Sprint(ok, was.To != "", was.From == was.Head)]++
			}
		}
	})
	for _, what := range []string{"0", "60", "61", "62", "70", "false false true", "true false true", "true false false", "true true true", "true true false"} {
		if seen[what] < 20 {
			t.Error("hardly drawn:", what, seen)
		}
	}
	// One name for two is another rule.
	placed(t, map[string]string{"p(@S) :- q(@S), q(@D)": "no", "p(@S) :- q(@S), q(@S)": "S  S"})
}
