package parser

import (
	"reflect"
	"slices"
	"strings"
	"testing"

	"beaconry/api"
	"beaconry/lexer"
	"beaconry/printer"
)

func at(line, col int) api.Pos { return api.Pos{Line: line, Col: col} }

func short(s string) string { return s[:min(len(s), 300)] }

// parsed asks for a program, with no error and no place.
func parsed(t *testing.T, s string, want api.Program) {
	t.Helper()
	if p, e, pos := Parse(s); e != api.OK || pos != (api.Pos{}) || !reflect.DeepEqual(p, want) {
		t.Errorf("%q: %+v, error %d at %v, not %+v", short(s), p, e, pos, want)
	}
}

// refused asks for an error, its place, and nothing beside it.
func refused(t *testing.T, s string, e api.Errno, want api.Pos) {
	t.Helper()
	p, got, pos := Parse(s)
	if got != e || pos != want || !reflect.DeepEqual(p, api.Program{}) {
		t.Errorf("%q: %+v, error %d at %v, not %d at %v", short(s), p, got, pos, e, want)
	}
}

func notRight(t *testing.T, s string) {
	t.Helper()
	refused(t, s, api.ErrProgram, api.Pos{})
}

func oneRule(r api.Rule) api.Program { return api.Program{Rules: []api.Rule{r}} }

func TestStatementsQ1(t *testing.T) {
	r := ruleOf("", 0, nil, atom("q", v("S")))
	a := fact("p", addr("a"))
	d := api.Decl{Name: "q", Arity: 1}
	labelled := func(label string) api.Rule { return api.Rule{Label: label, Head: "h", Args: r.Args, Body: r.Body} }
	for s, want := range map[string]api.Program{
		"": {}, " \n\t": {}, "% p(@a).": {},
		"materialize(q,1).":                    {Decls: []api.Decl{d}},
		"materialize ( q , 1 ) . % x":          {Decls: []api.Decl{d}},
		"materialize(link,8).":                 {Decls: []api.Decl{{Name: "link", Arity: 8}}},
		"materialize(min,007).":                {Decls: []api.Decl{{Name: "min", Arity: 7}}},
		"p(@a).":                               {Facts: []api.Tuple{a}},
		"p(@a).p(@a).":                         {Facts: []api.Tuple{a, a}},
		"min(@materialize,f_cons).":            {Facts: []api.Tuple{fact("min", addr("materialize"), addr("f_cons"))}},
		"p(@f_cons).":                          {Facts: []api.Tuple{fact("p", addr("f_cons"))}},
		"r h(@S) :- q(@S).":                    oneRule(r),
		"r h(@S):-q(@S).":                      oneRule(r),
		"r%\nh%\n(\n@%\nS\n)\n:-\nq(@S)%.\n.%": oneRule(r),
		"count min(@a):-max(@a).":              oneRule(api.Rule{Label: "count", Head: "min", Args: []api.Term{c(addr("a"))}, Body: []api.Literal{atom("max", c(addr("a")))}}),
		// Each kind in its order, wherever it stands among the others.
		"r h(@S) :- q(@S). p(@a). materialize(q,1). p(@a,2). r2 h(@S) :- q(@S). materialize(q,2). p(@a,1). materialize(a,3). r1 h(@S) :- q(@S).": {
			Decls: []api.Decl{d, {Name: "q", Arity: 2}, {Name: "a", Arity: 3}},
			Facts: []api.Tuple{a, fact("p", addr("a"), num(2)), fact("p", addr("a"), num(1))},
			Rules: []api.Rule{r, labelled("r2"), labelled("r1")},
		},
	} {
		parsed(t, s, want)
	}
}

func TestExampleQ1(t *testing.T) {
	refused(t, "r1 p(@S) :- q(@S), .", api.ErrParse, at(1, 20))
}

func values() map[string]api.Value {
	return map[string]api.Value{
		"0": num(0), "7": num(7), "007": num(7), "-7": num(-7), "- 7": num(-7), "-%\n7": num(-7), "-0": num(0), "-00": num(0), "2147483647": num(api.MaxInt), "-2147483647": num(-api.MaxInt),
		`""`: quoted(""), `"ab c"`: quoted("ab c"), `"X"`: quoted("X"), `"."`: quoted("."), `"% "`: quoted("% "), `"), q(@S"`: quoted("), q(@S"), `"min"`: quoted("min"), `"f_size"`: quoted("f_size"), `"-"`: quoted("-"), `"["`: quoted("["), `"]"`: quoted("]"), `","`: quoted(","), `"7"`: quoted("7"),
		"a": addr("a"), "n_1": addr("n_1"), "min": addr("min"), "max": addr("max"), "count": addr("count"), "materialize": addr("materialize"), "f_": addr("f_"), "abcdefghijklmnop": addr("abcdefghijklmnop"),
		"[]": listOf(), "[ ]": listOf(), "[1]": listOf(num(1)), "[-1,a]": listOf(num(-1), addr("a")), `[ 2 , "," , [ ] ]`: listOf(num(2), quoted(","), listOf()), "[f_size]": listOf(addr("f_size")), "[min,[f_cons,materialize]]": listOf(addr("min"), listOf(addr("f_cons"), addr("materialize"))),
		"[[[]]]": listOf(listOf(listOf())), "[[1],[2,[3]],4]": listOf(listOf(num(1)), listOf(num(2), listOf(num(3))), num(4)),
		"[" + strings.Repeat("1,", 15) + "1]": listOf(slices.Repeat([]api.Value{num(1)}, 16)...),
	}
}

func TestValuesQ1(t *testing.T) {
	for s, x := range values() {
		parsed(t, "p(@a,"+s+").", api.Program{Facts: []api.Tuple{fact("p", addr("a"), x)}})
		want := fact("p", addr("f_size"), x, listOf(x, x), addr("f_rest"))
		parsed(t, "p(@f_size,"+s+",["+s+","+s+"],f_rest).", api.Program{Facts: []api.Tuple{want}})
		wantTerm(t, s, c(x))
	}
	parsed(t, "p(@a,[[[[]]]]).", api.Program{Facts: []api.Tuple{fact("p", addr("a"), listOf(listOf(listOf(listOf()))))}})
}

// wantTerm asks for a term at each place where one may stand.
func wantTerm(t *testing.T, s string, x api.Term) {
	t.Helper()
	one := v("S")
	for text, want := range map[string]api.Rule{
		"r h(@S," + s + ",S) :- q(@S,1).":                ruleOf("", 0, []api.Term{x, one}, atom("q", one, c(num(1)))),
		"r h(@S,min<X>," + s + ") :- q(@S).":             ruleOf("min", 1, []api.Term{v("X"), x}, atom("q", one)),
		"r h(@S) :- q(@S," + s + ", " + s + ").":         ruleOf("", 0, nil, atom("q", one, x, x)),
		"r h(@S) :- !q(@S," + s + ").":                   ruleOf("", 0, nil, not("q", one, x)),
		"r h(@S) :- " + s + " < " + s + ", q(@S).":       ruleOf("", 0, nil, compared(x, "<", x), atom("q", one)),
		"r h(@S) :- q(@S), X := " + s + ".":              ruleOf("", 0, nil, atom("q", one), set("X", x)),
		"r h(@S) :- X := f_append(" + s + "," + s + ").": ruleOf("", 0, nil, set("X", call("f_append", x, x))),
		"r h(@S) :- (" + s + "-" + s + ") >= X.":         ruleOf("", 0, nil, compared(op(x, "-", x), ">=", v("X"))),
	} {
		parsed(t, text, oneRule(want))
	}
}

func TestTermsQ1(t *testing.T) {
	x, y, l := v("X"), v("Y"), v("L")
	for s, want := range map[string]api.Term{
		"X": x, "S_1": v("S_1"), "Min": v("Min"), "ABCDEFGHIJKLMNOP": v("ABCDEFGHIJKLMNOP"),
		"(X+Y)": op(x, "+", y), "(X-Y)": op(x, "-", y), "(X*Y)": op(x, "*", y), "( X %(\n + Y )": op(x, "+", y),
		"(X--3)": op(x, "-", c(num(-3))), "(-3-(-3- -3))": op(c(num(-3)), "-", op(c(num(-3)), "-", c(num(-3)))), "(X+-0)": op(x, "+", c(num(0))),
		"((X+Y)*2)": op(op(x, "+", y), "*", c(num(2))), "(X+(Y*a))": op(x, "+", op(y, "*", c(addr("a")))), "(min-max)": op(c(addr("min")), "-", c(addr("max"))),
		"f_size(L)": call("f_size", l), "f_first(L)": call("f_first", l), "f_last(L)": call("f_last", l), "f_rest(L)": call("f_rest", l), "f_reverse(L)": call("f_reverse", l),
		"f_cons(X,L)": call("f_cons", x, l), "f_append(L,X)": call("f_append", l, x), "f_concat(L,L)": call("f_concat", l, l), "f_member(L,X)": call("f_member", l, x),
		"f_cons(min,f_rest([f_rest]))": call("f_cons", c(addr("min")), call("f_rest", c(listOf(addr("f_rest"))))), "(f_size(L)+f_member(L,a))": op(call("f_size", l), "+", call("f_member", l, c(addr("a")))), "f_size ( (X+1) )": call("f_size", op(x, "+", c(num(1)))),
	} {
		wantTerm(t, s, want)
	}
}

func TestLiteralsQ1(t *testing.T) {
	s, x := v("S"), v("X")
	for text, want := range map[string]api.Literal{
		"q(@S)": atom("q", s), "q ( @ a , X )": atom("q", c(addr("a")), x), "min(@S,min)": atom("min", s, c(addr("min"))), "f_(@S)": atom("f_", s),
		"!q(@S)": not("q", s), "! q(@a,X,-1)": not("q", c(addr("a")), x, c(num(-1))), "!count(@S)": not("count", s),
		"X := 1": set("X", c(num(1))), "X:=X": set("X", x), "X:=-1": set("X", c(num(-1))), "Cost := (A+B)": set("Cost", op(v("A"), "+", v("B"))),
		"X == 1": compared(x, "==", c(num(1))), "X!=a": compared(x, "!=", c(addr("a"))), "X<-1": compared(x, "<", c(num(-1))), "X <= S": compared(x, "<=", s), "X>S": compared(x, ">", s), "X>=S": compared(x, ">=", s),
		"a == b": compared(c(addr("a")), "==", c(addr("b"))), "min < X": compared(c(addr("min")), "<", x), "-1 < 1": compared(c(num(-1)), "<", c(num(1))), "[] != [a]": compared(c(listOf()), "!=", c(listOf(addr("a")))), `"(" == "@"`: compared(c(quoted("(")), "==", c(quoted("@"))),
		"(X+1) < f_size(S)": compared(op(x, "+", c(num(1))), "<", call("f_size", s)), "f_size(S) > (X*X)": compared(call("f_size", s), ">", op(x, "*", x)), "materialize >= max": compared(c(addr("materialize")), ">=", c(addr("max"))),
	} {
		parsed(t, "r h(@S) :- "+text+".", oneRule(ruleOf("", 0, nil, want)))
		parsed(t, "r h(@S) :- z(@S),"+text+" , "+text+".", oneRule(ruleOf("", 0, nil, atom("z", s), want, want)))
	}
	parsed(t, "r h(@S) :- X := 1, a < X, !q(@S), q(@S), X == X, !p(@S).", oneRule(ruleOf("", 0, nil, set("X", c(num(1))), compared(c(addr("a")), "<", x), not("q", s), atom("q", s), compared(x, "==", x), not("p", s))))
}

func TestAggregatesQ1(t *testing.T) {
	x, y, body := v("X"), v("Y"), atom("q", v("S"))
	for _, agg := range []string{"min", "max", "count"} {
		word := c(addr(agg))
		for head, want := range map[string]api.Rule{
			agg + "<X>":                       ruleOf(agg, 1, []api.Term{x}, body),
			agg + " < X\n>":                   ruleOf(agg, 1, []api.Term{x}, body),
			"X," + agg + "<X>":                ruleOf(agg, 2, []api.Term{x, x}, body),
			agg + "<X>,Y,1":                   ruleOf(agg, 1, []api.Term{x, y, c(num(1))}, body),
			"1,2,3,4,5,6," + agg + "<Y>":      ruleOf(agg, 7, []api.Term{c(num(1)), c(num(2)), c(num(3)), c(num(4)), c(num(5)), c(num(6)), y}, body),
			agg:                               ruleOf("", 0, []api.Term{word}, body),
			agg + "," + agg:                   ruleOf("", 0, []api.Term{word, word}, body),
			agg + "," + agg + "<Y>":           ruleOf(agg, 2, []api.Term{word, y}, body),
			agg + "<Y>," + agg + "," + agg:    ruleOf(agg, 1, []api.Term{y, word, word}, body),
			`"` + agg + `",` + agg + "<Y>,X":  ruleOf(agg, 2, []api.Term{c(quoted(agg)), y, x}, body),
			"[" + agg + "],(" + agg + "+min)": ruleOf("", 0, []api.Term{c(listOf(addr(agg))), op(word, "+", c(addr("min")))}, body),
		} {
			parsed(t, "r h(@S,"+head+") :- q(@S).", oneRule(want))
			// What one rule has the next one does not know of.
			next := api.Rule{Label: "r", Head: "h", Args: []api.Term{c(addr(agg)), y}, Agg: agg, At: 1, Body: want.Body}
			parsed(t, "r h(@S,"+head+") :- q(@S). r h(@"+agg+","+agg+"<Y>) :- q(@S).", api.Program{Rules: []api.Rule{want, next}})
		}
	}
}

// TestNoAggregatesQ1: a ^ stands ahead of the token that is refused.
func TestNoAggregatesQ1(t *testing.T) {
	for _, agg := range []string{"min", "max", "count"} {
		for _, args := range []string{
			"@AGG^<X>",                                                            // the place is none
			"@S,AGG<X>,max^<Y>", "@S,AGG<X>,Y,min^<Y>", "@S,AGG,AGG<X>,1,AGG^<X>", // there is one ahead
			"@S,AGG<^AGG>", "@S,AGG<^1>", "@S,AGG<^(X+1)>", "@S,AGG<X^,Y>", "@S,AGG<X^", "@S,AGG<X>^>", // of one variable
			"@S,AGG^<=X", "@S,AGG^(X)", "@S,AGG1^<X>", "@S,sum^<X>", "@S,X^<X>", "@S,\"AGG\"^<X>", // no such name, or no such sign
			"@S,[AGG^<X>]", "@S,(AGG^<X>+1)", "@S,f_size(AGG^<X>)", // within another one
		} {
			refusedAtMark(t, strings.ReplaceAll("r h("+args+") :- q(@S).", "AGG", agg))
		}
		for _, body := range []string{"q(@S,AGG^<X>)", "!q(@S,AGG^<X>)", "X := AGG^<X>", "AGG<X^>"} {
			refusedAtMark(t, strings.ReplaceAll("r h(@S) :- "+body+".", "AGG", agg))
		}
		refusedAtMark(t, "p(@a,"+agg+"^<X>).")
	}
}

// refusedAtMark asks for ErrParse where a ^ stands in a text of one line, which is no token.
func refusedAtMark(t *testing.T, s string) {
	t.Helper()
	ahead, behind, _ := strings.Cut(s, "^")
	refused(t, ahead+behind, api.ErrParse, at(1, len(ahead)+1))
}

// words are tokens of each kind; of signs and names each one that the grammar speaks of.
func words() []string {
	return strings.Fields(`q f_size min materialize X 1 "t" "(" ":-" END :- := == != <= >= < > ( ) [ ] , . @ ! + - *`)
}

const (
	names  = " q f_size min materialize "
	texts  = ` "t" "(" ":-" `
	scalar = names + texts + " 1 - [ "
	terms  = scalar + " X ( "
	ops    = " + - * "
	tests  = " == != < <= > >= "
)

// TestPlacesQ1 tells of each place of the grammar by which tokens a program goes on; all others are refused there, whatever follows.
func TestPlacesQ1(t *testing.T) {
	const h, b = "r h ( @ S ", "r h ( @ S ) :- "
	for ahead, on := range map[string]string{
		"": names + "END", "p ( @ a ) .": names + "END", "materialize ( p , 1 ) .": names + "END", b + "q ( @ S ) .": names + "END",
		"materialize": "(", "materialize (": names, "materialize ( p": ",", "materialize ( materialize": ",", "materialize ( p ,": "1", "materialize ( p , 1": ")", "materialize ( p , 1 )": ".",
		"p": "(" + names, "f_size": "(" + names, "min": "(" + names, "p (": "@", "p ( @": scalar, "p ( @ a": ", )", "p ( @ -": "1", "p ( @ a ,": scalar, "p ( @ a , f_size": ", )", `p ( @ a , "("`: ", )", "p ( @ a , - 1": ", )", "p ( @ a , 1 )": ".",
		"p ( @ [": scalar + "]", "p ( @ [ f_size": ", ]", "p ( @ [ ]": ", )", "p ( @ [ 1 ,": scalar, "p ( @ [ 1 , -": "1", "p ( @ [ [": scalar + "]", "p ( @ [ [ ]": ", ]", "p ( @ [ [ 1 ] ,": scalar, "p ( @ a , [ 1 ]": ", )",
		"r materialize": "(", "r h": "(", "r h (": "@", "r h ( @": terms, h: ", )", "r h ( @ min": ", )", "r h ( @ f_size": "(", h + ",": terms, h + ", min": "< , )", h + ", q": ", )", h + ", min <": "X", h + ", min < X": ">", h + ", min < X >": ", )", h + ", min < X > , min": ", )", h + ", min < X > ,": terms, h + ", min , min": "< , )", h + ")": ":-", h + ", 1": ", )",
		b: terms + "!", b + "!": names, b + "! f_size": "(", b + "! q": "(", b + "! q (": "@", b + "! q ( @": terms, b + "! q ( @ S": ", )", b + "! q ( @ S )": ", .", b + "q": "(" + tests, b + "min": "(" + tests, b + "materialize": "(" + tests, b + "q (": "@", b + "q ( @": terms, b + "q ( @ min": ", )", b + "q ( @ S ,": terms, b + "q ( @ S , min": ", )", b + "q ( @ S )": ", .", b + "q ( @ S ) ,": terms + "!",
		b + "X": ":=" + tests, b + "X :=": terms, b + "X := q": ", .", b + "X := X": ", .", b + "X := 1 ,": terms + "!", b + "X ==": terms, b + "X == X": ", .", b + "1": tests, b + `"("`: tests, b + "-": "1", b + "- 1": tests, b + "1 < q": ", .", b + "1 < 1 ,": terms + "!", b + "[": scalar + "]", b + "[ ]": tests, b + "[ 1": ", ]",
		b + "f_size": "(", b + "f_size (": terms + ")", b + "f_size ( X": ", )", b + "f_size ( X ,": terms, b + "f_size ( )": tests, b + "f_size ( X )": tests, b + "f_size ( f_size": "(", b + "f_size ( f_size ( )": ", )", b + "X := f_size": "(", b + "X := f_size ( )": ", .", b + "X := [ f_size": ", ]",
		b + "(": terms, b + "( X": ops, b + "( q": ops, b + "( - 1": ops, b + "( f_size": "(", b + "( f_size ( )": ops, b + "( X +": terms, b + "( X -": terms, b + "( X - -": "1", b + "( X + X": ")", b + "( X + X )": tests, b + "( (": terms, b + "( ( X + X )": ops, b + "( ( X + X ) *": terms, b + "( X * ( X + X )": ")", b + "X := ( X + X )": ", .", b + "q ( @ ( X + X )": ", )", h + ", ( X + X )": ", )",
	} {
		ahead = strings.TrimSpace(ahead)
		allowed := strings.Fields(on)
		for _, w := range words() {
			goesOnOrNot(t, ahead, w, slices.Contains(allowed, w))
		}
	}
}

func goesOnOrNot(t *testing.T, ahead, w string, may bool) {
	t.Helper()
	place := at(3, 1)
	behind := []string{"", " .", " ) :- q ( @ S ) .", " X X", "\n, 1"}
	if w == "END" {
		w, behind = "", behind[:1]
	}
	for _, x := range behind {
		s := ahead + "\n%\n" + w + x
		if !may {
			refused(t, s, api.ErrParse, place)
		} else if _, e, pos := Parse(s); e == api.ErrLex || e == api.ErrParse && (pos == place || pos.Line < 3) {
			t.Errorf("%q: error %d at %v", s, e, pos)
		}
	}
}

// TestTokenErrorsQ1: chapter 3's errors come ahead of all others, wherever they are.
func TestTokenErrorsQ1(t *testing.T) {
	for s, want := range map[string]api.Pos{
		"?": at(1, 1), "p(@a).\n p(@a,$).": at(2, 7), "X ?": at(1, 3), "p(@1). \n;": at(2, 1), "r h(@S) :- q(@S),\n X = 1.": at(2, 4), "p(@a,2147483648).": at(1, 6), `p(@a,"x).`: at(1, 6), "p(@a,abcdefghijklmnopq).": at(1, 6), "p(@a,aB).": at(1, 6), "p(@a,é).": at(1, 6), "p(@a).\xff": at(1, 7),
		strings.Repeat("p(@a).", 65) + "{": at(1, 391),
	} {
		refused(t, s, api.ErrLex, want)
	}
}

func TestTextSizeQ1(t *testing.T) {
	fill := func(s string, n int) string { return s + strings.Repeat(" ", n-len(s)) }
	one := api.Program{Facts: []api.Tuple{fact("p", addr("a"))}}
	parsed(t, fill("p(@a).", api.MaxSource), one)
	parsed(t, fill("%", api.MaxSource-7)+"\np(@a).", one)
	refused(t, fill("p(@a).", api.MaxSource+1), api.ErrLex, at(1, 1))
	refused(t, fill("\nX", api.MaxSource), api.ErrParse, at(2, 1))
	refused(t, fill("\nX", api.MaxSource+1), api.ErrLex, at(1, 1))
	notRight(t, fill("p(@1).", api.MaxSource))
	refused(t, fill("p(@1).", api.MaxSource+1), api.ErrLex, at(1, 1))
	refused(t, fill("p(@a)", api.MaxSource), api.ErrParse, at(1, api.MaxSource+1))
}

// TestParseErrorComesFirstQ1: what is no program is told by its place, whatever is not right ahead.
func TestParseErrorComesFirstQ1(t *testing.T) {
	for _, s := range []string{"p(@1).", "materialize(p,0).", "f_size(@a).", strings.Repeat("p(@a).", 65), "r h(@S) :- X := f_size()."} {
		notRight(t, s)
		refused(t, s+"\n.", api.ErrParse, at(2, 1))
		refused(t, s+"\np", api.ErrParse, at(2, 2))
	}
}

func TestCountsQ1(t *testing.T) {
	r := ruleOf("", 0, nil, atom("q", v("S")))
	times := strings.Repeat
	parsed(t, times("materialize(q,1).", 64)+times("p(@a).", 64)+times("r h(@S):-q(@S).", 64), api.Program{
		Decls: slices.Repeat([]api.Decl{{Name: "q", Arity: 1}}, 64), Facts: slices.Repeat([]api.Tuple{fact("p", addr("a"))}, 64), Rules: slices.Repeat([]api.Rule{r}, 64),
	})
	for _, s := range []string{"materialize(q,1).", "p(@a).", "r h(@S):-q(@S)."} {
		notRight(t, times(s, 65))
		notRight(t, times(s, 1000))
	}
	seven := slices.Repeat([]api.Term{v("X")}, 7)
	eight := append([]api.Term{v("S")}, seven...)
	parsed(t, "r h(@S"+times(",X", 7)+") :- q(@S"+times(",X", 7)+"), !q(@S"+times(",X", 7)+").", oneRule(ruleOf("", 0, seven, atom("q", eight...), not("q", eight...))))
	parsed(t, "p(@a"+times(",1", 7)+").", api.Program{Facts: []api.Tuple{fact("p", append([]api.Value{addr("a")}, slices.Repeat([]api.Value{num(1)}, 7)...)...)}})
	parsed(t, "r h(@S) :- q(@S)"+times(", q(@S)", 7)+".", oneRule(ruleOf("", 0, nil, slices.Repeat([]api.Literal{atom("q", v("S"))}, 8)...)))
	for _, s := range []string{
		"r h(@S" + times(",X", 8) + ") :- q(@S).", "r h(@S" + times(",X", 7) + ",min<X>) :- q(@S).", "r h(@S,min<X>" + times(",X", 7) + ") :- q(@S).", "r h(@S) :- q(@S" + times(",X", 8) + ").", "r h(@S) :- !q(@S" + times(",X", 8) + ").", "p(@a" + times(",1", 8) + ").",
		"r h(@S) :- q(@S)" + times(", q(@S)", 8) + ".", "p(@a,[" + times("1,", 16) + "1]).", "r h(@S) :- X := [" + times("1,", 16) + "1].", "p(@a,[[[[[]]]]]).", "r h(@[[[[[]]]]]) :- q(@S).", "r h(@S) :- X := f_cons(" + times("1,", 5000) + "1).",
	} {
		notRight(t, s)
	}
}

func TestDepthQ1(t *testing.T) {
	for ahead, x := range map[string]struct {
		behind string
		around func(api.Term) api.Term
	}{
		"f_size(":   {")", func(y api.Term) api.Term { return call("f_size", y) }},
		"f_cons(X,": {")", func(y api.Term) api.Term { return call("f_cons", v("X"), y) }},
		"(1-":       {")", func(y api.Term) api.Term { return op(c(num(1)), "-", y) }},
		"(":         {"*X)", func(y api.Term) api.Term { return op(y, "*", v("X")) }},
	} {
		in := c(listOf(listOf(listOf(listOf()))))
		for depth := 1; depth <= 9; depth++ {
			s := strings.Repeat(ahead, depth-1) + "[[[[]]]]" + strings.Repeat(x.behind, depth-1)
			text, want := "r h(@S) :- X := "+s+".", oneRule(ruleOf("", 0, nil, set("X", in)))
			if depth <= api.MaxTerm {
				parsed(t, text, want)
			} else {
				notRight(t, text)
				notRight(t, "r h(@S,"+s+") :- q(@S).")
			}
			in = x.around(in)
		}
		deep := (api.MaxSource - 100) / len(ahead+x.behind)
		notRight(t, "r h(@S) :- X := "+strings.Repeat(ahead, deep)+"1"+strings.Repeat(x.behind, deep)+".")
		long := (api.MaxSource - 16) / len(ahead)
		refused(t, "r h(@S) :- X := "+strings.Repeat(ahead, long), api.ErrParse, at(1, 17+long*len(ahead)))
	}
	notRight(t, "p(@a,"+strings.Repeat("[", 9000)+strings.Repeat("]", 9000)+").")
	refused(t, "p(@a,"+strings.Repeat("[", 19000), api.ErrParse, at(1, 19006))
	refused(t, "p(@a,"+strings.Repeat("[", 9000)+strings.Repeat("]", 8999)+").", api.ErrParse, at(1, 18005))
}

func TestNotRightQ1(t *testing.T) {
	for _, s := range []string{
		"materialize(p,0).", "materialize(p,9).", "materialize(p,2147483647).", "materialize(materialize,1).", "materialize(f_size,1).",
		"p(@1).", `p(@"a").`, "p(@[a]).", "p(@-1).", "p(@[]).", "f_size(@a).",
		"f_size p(@S) :- q(@S).", "r f_size(@S) :- q(@S).", "r materialize(@S) :- q(@S).", "r p(@1) :- q(@S).", "r p(@(X+1)) :- q(@S).", "r p(@f_first(L)) :- q(@S).", `r p(@"a") :- q(@S).`, "r p(@[]) :- q(@S).",
		"r p(@S) :- q(@1).", "r p(@S) :- !q(@f_first(L)).", "r p(@S) :- !f_size(@S).", "r p(@S) :- !materialize(@S).", "r p(@S) :- materialize(@S).", "r p(@S) :- q(@(S+S)).",
		"r p(@S) :- X := f_size().", "r p(@S) :- X := f_size(X,X).", "r p(@S) :- X := f_cons(X).", "r p(@S) :- X := f_cons().", "r p(@S) :- X := f_cons(X,X,X).", "r p(@S) :- f_rest() == 1.", "r p(@S,f_last(X,X)) :- q(@S).", "r p(@S) :- q(@S,f_reverse(f_concat(X))).",
	} {
		notRight(t, s)
		notRight(t, "materialize(q,1). p(@a).\n"+s)
		notRight(t, s+" r h(@S) :- q(@S).")
	}
}

// noisy is tokens' texts with blanks, comments, or little else, between.
func noisy(roll func(int) int, l []string) string {
	var b strings.Builder
	for _, w := range l {
		b.WriteString(w)
		b.WriteString([]string{" ", " ", " ", "\n", "\t", "% .\n", " %\xff\n"}[roll(7)])
	}
	return b.String()
}

func fits(s string) bool { return len(s) <= api.MaxSource }

// TestDrawnQ1: what is drawn, and told by the grammar, is parsed to itself, if it is right, and else refused with no place.
func TestDrawnQ1(t *testing.T) {
	good, bad := 0, 0
	d := drawer{dice(), 120}
	for range 4000 {
		p := d.program()
		s := noisy(d.roll, told(p))
		switch {
		case !fits(s):
		case printer.Right(p):
			good++
			parsed(t, s, p)
		default:
			bad++
			notRight(t, s)
		}
	}
	if good < 500 || bad < 500 {
		t.Errorf("%d right ones and %d others are too few", good, bad)
	}
}

// spoilt is tokens of which one was left out, put in, changed, doubled or moved, or behind which all were left out.
func spoilt(roll func(int) int, l []string) []string {
	i, w := roll(len(l)), words()[roll(len(words()))]
	switch roll(12) {
	case 0:
		return slices.Delete(l, i, i+1)
	case 1:
		return slices.Insert(l, i, w)
	case 2:
		l[i] = w
	case 3:
		return slices.Insert(l, i, l[i])
	case 4:
		j := roll(len(l))
		l[i], l[j] = l[j], l[i]
	case 5:
		return l[:i]
	default:
		// Of a word another word, which often may stand there, too.
		if l[i][0] == '"' || l[i][0] >= '0' && l[i][0] <= '9' || l[i][0] >= 'A' && l[i][0] <= 'z' && l[i] != "[" && l[i] != "]" {
			l[i] = words()[roll(7)]
		}
	}
	return l
}

// TestDrawnPlacesQ1 holds the places of errors against all ways that the grammar has.
func TestDrawnPlacesQ1(t *testing.T) {
	rules := grammar()
	roll := dice()
	d := drawer{roll, 0}
	wrong, fine := 0, 0
	for range 3000 {
		l := told(api.Program{Decls: many(roll(2), d.decl), Facts: many(roll(2), d.fact), Rules: many(1+roll(2), d.rule)})
		for range 1 + roll(2) {
			if len(l) > 0 {
				l = spoilt(roll, l)
			}
		}
		s := strings.ReplaceAll(noisy(roll, l), "END", "end")
		tokens, e, _ := lexer.Scan(s)
		if e != api.OK {
			continue
		}
		if i := firstWrong(rules, tokens); i >= 0 {
			wrong++
			refused(t, s, api.ErrParse, tokens[i].Pos)
			continue
		}
		fine++
		if p, e, pos := Parse(s); e != api.OK && e != api.ErrProgram || pos != (api.Pos{}) || !printer.Right(p) {
			t.Errorf("%q: error %d at %v", short(s), e, pos)
		}
	}
	if wrong < 1000 || fine < 300 {
		t.Errorf("%d wrong ones and %d others are too few", wrong, fine)
	}
}

// TestUndoesPrintQ2: of right programs, what is printed is parsed to the same.
func TestUndoesPrintQ2(t *testing.T) {
	d := drawer{dice(), 0}
	held := 0
	for range 3000 {
		p := d.program()
		s := printer.Print(p)
		if !fits(s) {
			refused(t, s, api.ErrLex, at(1, 1))
			continue
		}
		held++
		parsed(t, s, p)
	}
	if held < 2000 {
		t.Errorf("%d programs are too few", held)
	}
}

// TestPrintedSizeQ2: a print of 20000 bytes is undone; one of a byte more is refused.
func TestPrintedSizeQ2(t *testing.T) {
	wide := quoted(strings.Repeat("x", 32))
	p := api.Program{Facts: slices.Repeat([]api.Tuple{fact("p", addr("a"), listOf(slices.Repeat([]api.Value{wide}, 8)...))}, 64)}
	for i := 0; len(printer.Print(p)) < api.MaxSource; i++ {
		x := &p.Facts[i%64]
		more := wide
		more.Text = more.Text[:min(32, max(0, api.MaxSource-len(printer.Print(p))-3))]
		x.Args = append(slices.Clone(x.Args), more)
	}
	s := printer.Print(p)
	if len(s) != api.MaxSource {
		t.Fatalf("%d bytes", len(s))
	}
	parsed(t, s, p)
	p.Facts[0].Name = "pp"
	refused(t, printer.Print(p), api.ErrLex, at(1, 1))
}

// TestPrintedAgainQ2: whatever text is parsed, its program's print is parsed to the same, and printed the same.
func TestPrintedAgainQ2(t *testing.T) {
	roll := dice()
	d := drawer{roll, 1000}
	held := 0
	texts := []string{"", "p(@a,-0,007,[-00]).", "r h(@S,min,count<X>):-a!=X,X:=-0,(0001--2)<f_size([f_size]),!min(@a)."}
	for range 2000 {
		l := told(d.program())
		if roll(2) == 0 && len(l) > 0 {
			l = spoilt(roll, l)
		}
		texts = append(texts, noisy(roll, l))
	}
	for _, s := range texts {
		p, e, _ := Parse(s)
		again := printer.Print(p)
		if e != api.OK || !fits(again) {
			continue
		}
		held++
		parsed(t, again, p)
	}
	if held < 500 {
		t.Errorf("%d texts are too few", held)
	}
}

// TestAnyBytes: rule R1, each call ends, and with an error nothing is answered but a place.
func TestAnyBytes(t *testing.T) {
	roll := dice()
	parts := append(words(), "p", "S", "%", "\n", "\xff", "é", `"`, "=", ":", "2147483648", "f_cons(", "min<X>", "(@", "[[", "materialize(", ":- q(@S).", "p(@a).")
	for range 20000 {
		var b strings.Builder
		for range roll(12) {
			b.WriteString(parts[roll(len(parts))] + []string{"", " "}[roll(2)])
		}
		s := b.String()
		p, e, pos := Parse(s)
		switch e {
		case api.OK:
			if !printer.Right(p) || pos != (api.Pos{}) {
				t.Errorf("%q: %+v at %v", s, p, pos)
			}
		case api.ErrProgram:
			refused(t, s, e, api.Pos{})
		case api.ErrParse, api.ErrLex:
			if pos.Line < 1 || pos.Col < 1 {
				t.Errorf("%q: error %d at %v", s, e, pos)
			}
			refused(t, s, e, pos)
		default:
			t.Errorf("%q: error %d", s, e)
		}
	}
}

// TestAnswersAreApart: rules R3 and R4, an answer and each list in it are their owner's, spare room too.
func TestAnswersAreApart(t *testing.T) {
	const s = `materialize(q,1). materialize(q,2). materialize(q,3). p(@a,[1,[2,3,4],b],5). p(@a,6,7). p(@a). r h(@S,min<X>,f_cons(X,[1,2])) :- q(@S,X,(X+1)), X == Y, Y := f_cons(X,L), !q(@S). r h(@S) :- q(@S). r h(@S) :- q(@S).`
	want, _, _ := Parse(s)
	p, _, _ := Parse(s)
	twin, _, _ := Parse(s)
	grown(p.Decls)
	grown(p.Facts)
	grown(p.Rules)
	for _, x := range p.Facts {
		growValues(x.Args)
	}
	for _, x := range p.Rules {
		growTerms(x.Args)
		grown(x.Body)
		for _, l := range x.Body {
			growTerms(l.Args)
		}
	}
	if !reflect.DeepEqual(p, want) {
		t.Errorf("growing a list changed %+v", p)
	}
	p.Facts[0].Args[1].List[1].List[0] = num(9)
	p.Rules[0].Args[2].Args[1].Value.List[0] = num(9)
	p.Rules[0].Body[0].Args[0] = v("Z")
	p.Decls[0].Name = "z"
	if !reflect.DeepEqual(twin, want) {
		t.Errorf("another answer changed: %+v", twin)
	}
	parsed(t, s, want)
}

// grown writes into a list's spare room, if it has some.
func grown[T any](l []T) {
	room := l[len(l):cap(l)]
	clear(room)
	if len(l) > 0 {
		for i := range room {
			room[i] = l[0]
		}
	}
}

func growValues(l []api.Value) {
	grown(l)
	for _, x := range l {
		growValues(x.List)
	}
}

func growTerms(l []api.Term) {
	grown(l)
	for _, x := range l {
		growTerms(x.Args)
		growValues(x.Value.List)
	}
}
