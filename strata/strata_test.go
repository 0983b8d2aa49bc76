package strata

import (
	"fmt"
	"reflect"
	"slices"
	"strconv"
	"strings"
	"testing"

	"beaconry/api"
	"beaconry/locate"
	"beaconry/printer"
	"beaconry/scope"
)

// numbered asks for the numbers of p, q, t, u and link, behind their declarations; none: no.
func numbered(t *testing.T, l map[string]string) {
	t.Helper()
	for s, want := range l {
		p := parsed(t, declared+s)
		got, e := Strata(p)
		told := strings.Trim(fmt.Sprint(got), "[]")
		wanted := api.OK
		if want == "no" {
			wanted = api.ErrStrata
			want = ""
		}
		if told != want || e != wanted {
			t.Errorf("%s: %s %d, not %s", s, told, e, want)
		}
		if other := least(t, len(p.Decls), 4, holds(p)); !slices.Equal(got, other) {
			t.Errorf("%s: %d, told another way: %d", s, got, other)
		}
		if c, n := Check(p); c != wanted || n != -1 {
			t.Errorf("%s: Check tells %d %d", s, c, n)
		}
	}
}

func TestNothingHangsT1(t *testing.T) {
	numbered(t, map[string]string{
		"": "0 0 0 0 0", "p(@a,1). link(@a,b,1).": "0 0 0 0 0",
	})
	if l, e := Strata(api.Program{}); len(l) > 0 || e != api.OK {
		t.Error("no relations:", l, e)
	}
	if l, e := Strata(parsed(t, "materialize(p,1).")); !slices.Equal(l, []int{0}) || e != api.OK {
		t.Error("no rules:", l, e)
	}
}

func TestAtomsT1(t *testing.T) {
	numbered(t, map[string]string{
		"a p(@S,X) :- q(@S,X).": "0 0 0 0 0", "a p(@S,X) :- q(@S,X). b q(@S,X) :- t(@S,X). c t(@S,X) :- u(@S,X). d u(@S,X) :- link(@S,X,Y).": "0 0 0 0 0",
		"a p(@S,X) :- p(@S,X).": "0 0 0 0 0", "a p(@S,X) :- q(@S,X), p(@S,X), t(@S,X).": "0 0 0 0 0",
		// Cycles without a strict step.
		"a p(@S,X) :- q(@S,X). b q(@S,X) :- p(@S,X).": "0 0 0 0 0", "a p(@S,X) :- q(@S,X). b q(@S,X) :- t(@S,X). c t(@S,X) :- p(@S,X).": "0 0 0 0 0",
		// They may be high, beside relations that hang on them and others that do not.
		"a p(@S,X) :- q(@S,X). b q(@S,X) :- p(@S,X), !t(@S,X). c u(@S,X) :- p(@S,X).": "1 1 0 1 0", "a u(@S,X) :- q(@S,X), !p(@S,X). b p(@S,X) :- q(@S,X), !t(@S,X). c q(@S,X) :- p(@S,X).": "1 1 0 2 0", "a p(@S,X) :- p(@S,X), !q(@S,X). b q(@S,X) :- q(@S,X), t(@S,X).": "1 0 0 0 0",
		// What is no atom is none that hangs on anything.
		"a p(@S,X) :- q(@S,X), X == \"!t(@S,X)\".": "0 0 0 0 0", "a p(@S,Y) :- q(@S,X), Y := f_size(X), Y < X, 1 != t.": "0 0 0 0 0", "a p(@S,X) :- q(@S,X), !t(@S,X). b u(@S,p) :- q(@S,p).": "1 0 0 0 0",
	})
}

func TestLitNotsT1(t *testing.T) {
	numbered(t, map[string]string{
		"a p(@S,X) :- q(@S,X), !t(@S,X).": "1 0 0 0 0", "a p(@S,X) :- link(@S,D,X), !link(@S,S,X).": "1 0 0 0 0", "a t(@S,X) :- q(@S,X), !p(@S,X).": "0 0 1 0 0",
		"a p(@S,X) :- u(@S,X), !q(@S,X). b q(@S,X) :- u(@S,X), !t(@S,X). c t(@S,X) :- u(@S,X), !link(@S,S,X).": "3 2 1 0 0", "a t(@S,X) :- u(@S,X), !link(@S,S,X). b q(@S,X) :- u(@S,X), !t(@S,X). c p(@S,X) :- u(@S,X), !q(@S,X).": "3 2 1 0 0",
		"a p(@S,X) :- link(@S,S,X), !q(@S,X). b q(@S,X) :- link(@S,S,X), !t(@S,X). c t(@S,X) :- link(@S,S,X), !u(@S,X). d u(@S,X) :- link(@S,S,X), !link(@S,S,X).": "4 3 2 1 0",
		// Of several ones the highest counts, wherever it stands; one that is so twice counts once.
		"a p(@S,X) :- q(@S,X), !t(@S,X), !u(@S,X). b t(@S,X) :- q(@S,X), !q(@S,X).": "2 0 1 0 0", "a p(@S,X) :- q(@S,X), !u(@S,X), !t(@S,X). b t(@S,X) :- q(@S,X), !q(@S,X).": "2 0 1 0 0", "a p(@S,X) :- t(@S,X), !t(@S,X), !t(@S,X).": "1 0 0 0 0",
		// It hangs on itself strictly.
		"a p(@S,X) :- q(@S,X), !p(@S,X).": "no", "a p(@S,X) :- p(@S,X), !p(@S,X).": "no",
	})
}

func TestAggregatesT1(t *testing.T) {
	for _, agg := range []string{"min", "max", "count"} {
		l := map[string]string{}
		for s, want := range map[string]string{
			"a p(@S,AGG<X>) :- q(@S,X).": "1 0 0 0 0", "a p(@S,AGG<S>) :- link(@S,D,C).": "1 0 0 0 0", "a p(@S,AGG<X>) :- p(@S,X).": "no", "a p(@S,AGG<X>) :- q(@S,X), p(@S,X).": "no", "a p(@S,AGG<X>) :- p(@S,X), q(@S,X).": "no",
			// All atoms count so, and LitNots no more than without one.
			"a p(@S,AGG<X>) :- q(@S,X), t(@S,X), u(@S,X). b t(@S,X) :- q(@S,X), !link(@S,S,X).": "2 0 1 0 0", "a p(@S,AGG<X>) :- q(@S,X), !t(@S,X).": "1 0 0 0 0", "a p(@S,AGG<X>) :- q(@S,X), !t(@S,X). b t(@S,AGG<X>) :- q(@S,X).": "2 0 1 0 0",
			"a p(@S,AGG<X>) :- q(@S,X). b q(@S,AGG<X>) :- t(@S,X). c t(@S,AGG<X>) :- u(@S,X). d u(@S,AGG<X>) :- link(@S,D,X).": "4 3 2 1 0",
			// With LitNots, and with atoms, in one chain.
			"a p(@S,AGG<X>) :- q(@S,X). b q(@S,X) :- link(@S,D,X), !t(@S,X). c t(@S,X) :- u(@S,X). d u(@S,AGG<X>) :- link(@S,D,X).": "3 2 1 1 0", "a u(@S,X) :- t(@S,X). b t(@S,AGG<X>) :- q(@S,X). c q(@S,X) :- p(@S,X). d p(@S,X) :- link(@S,D,X), !link(@S,D,S).": "1 1 2 2 0",
			// Another rule of the same relation is none with an aggregate.
			"a p(@S,AGG<X>) :- q(@S,X). b p(@S,X) :- t(@S,X). c t(@S,X) :- p(@S,X).": "1 0 1 0 0",
		} {
			l[strings.ReplaceAll(s, "AGG", agg)] = want
		}
		numbered(t, l)
	}
}

// TestSeveralRulesT1: what one of them asks for holds, whichever it is.
func TestSeveralRulesT1(t *testing.T) {
	numbered(t, map[string]string{
		"a p(@S,X) :- q(@S,X). b p(@S,X) :- t(@S,X), !q(@S,X). c p(@S,X) :- u(@S,X).": "1 0 0 0 0", "a p(@S,X) :- t(@S,X), !q(@S,X). b p(@S,X) :- q(@S,X).": "1 0 0 0 0", "a p(@S,X) :- q(@S,X). b p(@S,X) :- t(@S,X), !q(@S,X).": "1 0 0 0 0",
		"a p(@S,X) :- t(@S,X), !u(@S,X). b p(@S,X) :- q(@S,X). c q(@S,X) :- t(@S,X), !t(@S,X). d u(@S,X) :- q(@S,X).": "2 1 0 1 0", "a p(@S,X) :- q(@S,X). b q(@S,X) :- t(@S,X), !t(@S,X). c p(@S,X) :- t(@S,X).": "1 1 0 0 0",
		// An atom of a higher relation beside a LitNot of a lower one, and the other way.
		"a p(@S,X) :- q(@S,X), !t(@S,X). b q(@S,X) :- u(@S,X), !t(@S,X).": "1 1 0 0 0", "a p(@S,X) :- t(@S,X), !q(@S,X). b q(@S,X) :- u(@S,X), !t(@S,X).": "2 1 0 0 0", "a p(@S,X) :- t(@S,X), q(@S,X), !u(@S,X). b q(@S,X) :- u(@S,X), !t(@S,X). c t(@S,X) :- u(@S,X), !u(@S,X).": "2 2 1 0 0",
	})
}

// TestCyclesT1: each of a cycle's steps, alone, makes that there are no numbers, if it is strict; and so does each beside what hangs on the cycle, and what does not.
func TestCyclesT1(t *testing.T) {
	relations := []string{"p", "q", "t", "u"}
	for n := 1; n <= 4; n++ {
		for strict := range n + 1 {
			for _, how := range []string{"P(@S,X) :- link(@S,D,X), !Q(@S,X)", "P(@S,X) :- Q(@S,X), !Q(@S,X)", "P(@S,X) :- Q(@S,X), link(@S,S,X), !Q(@S,X)", "P(@S,min<X>) :- Q(@S,X)", "P(@S,max<X>) :- link(@S,S,X), Q(@S,X)", "P(@S,count<X>) :- Q(@S,X), link(@S,S,X)"} {
				s := ""
				for i := range n {
					step := "P(@S,X) :- Q(@S,X)"
					if i+1 == strict {
						step = how
					}
					s += "r " + strings.NewReplacer("P", relations[i], "Q", relations[(i+1)%n]).Replace(step) + ". "
				}
				want := "no"
				if strict == 0 {
					want = "0 0 0 0 0"
				}
				numbered(t, map[string]string{s: want})
				if n > 2 {
					continue
				}
				if strict == 0 {
					want = "0 0 0 1 0"
				}
				numbered(t, map[string]string{s + "b t(@S,X) :- p(@S,X). c u(@S,X) :- link(@S,S,X), !t(@S,X).": want, "b u(@S,count<X>) :- q(@S,X). " + s + "c t(@S,X) :- link(@S,X,Y).": want})
			}
		}
	}
}

// TestOrderOfDeclsT1: numbers stand in the order of Decls, whichever that is.
func TestOrderOfDeclsT1(t *testing.T) {
	rules := " a p(@S,X) :- q(@S,X), !t(@S,X). b t(@S,X) :- u(@S,X). c u(@S,count<X>) :- q(@S,X)."
	p := parsed(t, "materialize(p,2). materialize(q,2). materialize(t,2). materialize(u,2)."+rules)
	want := map[string]int{"p": 2, "q": 0, "t": 1, "u": 1}
	roll := dice()
	for range 100 {
		p.Decls = shuffled(roll, p.Decls)
		l, e := Strata(p)
		if e != api.OK || len(l) != 4 {
			t.Fatal(l, e)
		}
		for i, d := range p.Decls {
			if l[i] != want[d.Name] {
				t.Error(p.Decls, l)
			}
		}
	}
}

// chain is of as many relations as there may be, each of which hangs strictly on the next one, but the last one.
func chain(step string) string {
	var s strings.Builder
	for i := range api.MaxRules {
		fmt.Fprintf(&s, "materialize(c%d,2). ", i)
	}
	for i := range api.MaxRules - 1 {
		s.WriteString("r " + strings.NewReplacer("P", "c"+strconv.Itoa(i), "Q", "c"+strconv.Itoa(i+1)).Replace(step) + ".\n")
	}
	return s.String()
}

func TestMostT1(t *testing.T) {
	var want []int
	for i := range api.MaxRules {
		want = append(want, api.MaxRules-1-i)
	}
	for _, step := range []string{"P(@S,X) :- c63(@S,X), !Q(@S,X)", "P(@S,min<X>) :- Q(@S,X)", "P(@S,X) :- Q(@S,X), !Q(@S,X)", "P(@S,count<X>) :- c63(@S,X), c63(@S,1), !Q(@S,X), Q(@S,X), !c63(@S,X), Q(@S,X), Q(@S,1), !Q(@S,2)"} {
		p := parsed(t, chain(step))
		for _, rules := range [][]api.Rule{p.Rules, reversed(p.Rules), shuffled(dice(), p.Rules)} {
			p.Rules = rules
			if l, e := Strata(p); !slices.Equal(l, want) || e != api.OK {
				t.Error(step, l, e)
			}
			for n := -1; n <= api.MaxRules; n++ {
				l := Rules(p, n)
				if n < 1 || n == api.MaxRules {
					if len(l) > 0 {
						t.Error(step, n, l)
					}
				} else if len(l) != 1 || l[0].Head != "c"+strconv.Itoa(api.MaxRules-1-n) {
					t.Error(step, n, l)
				}
			}
			if e, n := Check(p); e != api.OK || n != -1 {
				t.Error(step, e, n)
			}
		}
		// One rule more closes the chain: each number is asked for, and there are none.
		p.Rules = append(p.Rules, parsed(t, "r c63(@S,X) :- c0(@S,X).").Rules...)
		if l, e := Strata(p); len(l) > 0 || e != api.ErrStrata {
			t.Error(step, l, e)
		}
		if e, n := Check(p); e != api.ErrStrata || n != -1 {
			t.Error(step, e, n)
		}
	}
	// As long a cycle without a strict step, the last rule closing it.
	p := parsed(t, chain("P(@S,X) :- Q(@S,X)")+"r c63(@S,X) :- c0(@S,X).")
	if l, e := Strata(p); !slices.Equal(l, make([]int, api.MaxRules)) || e != api.OK {
		t.Error(l, e)
	}
}

func reversed[T any](l []T) []T {
	out := slices.Clone(l)
	slices.Reverse(out)
	return out
}

// want is an error and a rule's number.
type want struct {
	e api.Errno
	n int
}

// wrong are programs, behind declarations, and chapter 6's answer.
func wrong() map[string]want {
	return map[string]want{
		"materialize(p,2).": {api.ErrArity, -1}, "p(@a).": {api.ErrArity, -1}, "w(@a).": {api.ErrArity, -1},
		"r p(@S,X) :- w(@S,X).": {api.ErrArity, 0}, "r p(@S,X) :- q(@S,X). s w(@S,X) :- q(@S,X).": {api.ErrArity, 1}, "r p(@S,X) :- q(@S,X), !w(@S,X).": {api.ErrArity, 0}, "r p(@S,X) :- q(@S,X). s p(@S) :- q(@S,X).": {api.ErrArity, 1},
		"r p(@S,Y) :- q(@S,X).": {api.ErrBound, 0}, "r p(@S,X) :- q(@S,X). s p(@S,X) :- q(@S,X), !t(@S,Y).": {api.ErrBound, 1}, "r p(@S,X) :- !t(@S,X), q(@S,X).": {api.ErrBound, 0}, "r p(@S,min<Y>) :- q(@S,X).": {api.ErrBound, 0},
		"r p(@S,X) :- q(@S,X), X := 1.": {api.ErrAgain, 0},
		// Without numbers, or without a place, beside.
		"r p(@S,X) :- q(@S,X), !p(@S,X). s p(@S,Y) :- q(@S,X).": {api.ErrBound, 1}, "r p(@a,X) :- q(@S,X). s p(@S,X) :- w(@S,X).": {api.ErrArity, 1}, "r p(@a,min<X>) :- p(@S,X). s p(@S,X) :- q(@S,X), S := a.": {api.ErrAgain, 1},
	}
}

// refused tells that a program has no numbers, by what chapter 6 tells.
func refused(t *testing.T, what string, p api.Program, w want) {
	t.Helper()
	if l, e := Strata(p); len(l) > 0 || e != w.e {
		t.Errorf("%s: %d %d, not %d", what, l, e, w.e)
	}
	for n := -1; n < 3; n++ {
		if l := Rules(p, n); len(l) > 0 {
			t.Errorf("%s: rules of %d: %v", what, n, l)
		}
	}
	if e, n := Check(p); e != w.e || n != w.n {
		t.Errorf("%s: %d %d, not %v", what, e, n, w)
	}
}

func TestWrongProgramT1(t *testing.T) {
	for s, w := range wrong() {
		refused(t, s, parsed(t, declared+s), w)
	}
	good := "r p(@S,X) :- q(@S,X), !t(@S,X). s u(@S,count<X>) :- p(@S,X)."
	for what, spoil := range map[string]func(p *api.Program){
		"a relation without a name":      func(p *api.Program) { p.Decls[1].Name = "" },
		"a relation of a wrong name":     func(p *api.Program) { p.Decls[1].Name = "Q" },
		"a relation without arguments":   func(p *api.Program) { p.Decls[0].Arity = 0 },
		"a relation with too many":       func(p *api.Program) { p.Decls[0].Arity = api.MaxArity + 1 },
		"too many relations":             func(p *api.Program) { p.Decls = slices.Repeat(p.Decls, 13) },
		"too many rules":                 func(p *api.Program) { p.Rules = slices.Repeat(p.Rules, 33) },
		"an empty fact":                  func(p *api.Program) { p.Facts = make([]api.Tuple, 1) },
		"an empty rule":                  func(p *api.Program) { p.Rules[0] = api.Rule{} },
		"a rule without a body":          func(p *api.Program) { p.Rules[1].Body = nil },
		"a literal of no kind":           func(p *api.Program) { p.Rules[0].Body[1].Kind = 0 },
		"a literal without arguments":    func(p *api.Program) { p.Rules[0].Body[0].Args = nil },
		"an aggregate that there is not": func(p *api.Program) { p.Rules[1].Agg = "sum" },
		"an argument within itself":      func(p *api.Program) { p.Rules[0].Body[0].Args = endless() },
		"a value within itself":          func(p *api.Program) { p.Rules[0].Args[1] = endlessList() },
	} {
		p := parsed(t, declared+good)
		spoil(&p)
		refused(t, what, p, want{api.ErrProgram, -1})
	}
}

// endless are terms, one of which has all of them as arguments.
func endless() []api.Term {
	l := []api.Term{{Kind: api.TermVar, Name: "S"}, {Kind: api.TermCall, Name: "f_append"}}
	l[1].Args = l
	return l
}

func endlessList() api.Term {
	l := []api.Value{{Kind: api.List}}
	l[0].List = l
	return api.Term{Kind: api.TermValue, Value: l[0]}
}

// TestWithoutPlacesT1: what is wrong by chapter 7 alone has numbers, and rules, or has none by itself; Check tells chapter 7's error of both.
func TestWithoutPlacesT1(t *testing.T) {
	for s, w := range map[string]struct {
		numbers []int
		at      int
	}{
		"r p(@S,X) :- q(@S,X). s p(@D,X) :- q(@S,X), q(@D,X).": {[]int{0, 0, 0, 0, 0}, 1}, "r p(@a,X) :- q(@S,X), !t(@S,X). s u(@S,X) :- p(@S,X).": {[]int{1, 0, 0, 1, 0}, 0}, "r p(@D,min<X>) :- link(@S,D,X).": {[]int{1, 0, 0, 0, 0}, 0},
		"r link(@S,X,X) :- q(@S,X), !u(@S,X). s p(@S,X) :- link(@S,X,X).": {[]int{1, 0, 0, 0, 1}, 0}, "r t(@S,1) :- S := a, !p(@S,1).": {[]int{0, 0, 1, 0, 0}, 0}, "r q(@a,1) :- 1 == 1.": {[]int{0, 0, 0, 0, 0}, 0}, "r q(@S,X) :- t(@S,X). s p(@S,X) :- q(@X,S), q(@S,X), !q(@S,S).": {[]int{1, 0, 0, 0, 0}, 1},
		// Without numbers, too.
		"r p(@a,X) :- q(@S,X), !p(@S,X).": {nil, 0}, "r p(@S,min<X>) :- p(@S,X). s q(@S,X) :- t(@X,S), t(@S,X).": {nil, 1}, "r link(@S,D,count<X>) :- link(@S,D,X).": {nil, 0}, "r p(@S,X) :- q(@S,X), !p(@S,X). s t(@S,X) :- q(@S,X). u t(@b,X) :- q(@S,X).": {nil, 2},
	} {
		p := parsed(t, declared+s)
		wanted := api.OK
		if w.numbers == nil {
			wanted = api.ErrStrata
		}
		l, e := Strata(p)
		if !slices.Equal(l, w.numbers) || e != wanted {
			t.Errorf("%s: %d %d, not %d", s, l, e, w.numbers)
		}
		rules := 0
		for n := range 3 {
			rules += len(Rules(p, n))
		}
		if want := len(p.Rules); e == api.OK && rules != want || e != api.OK && rules != 0 {
			t.Errorf("%s: %d rules", s, rules)
		}
		if c, n := Check(p); c != api.ErrPlace || n != w.at {
			t.Errorf("%s: %d %d, not in rule %d", s, c, n, w.at)
		}
	}
}

// drawn hands on programs.
func drawn(t *testing.T, n int, wild bool, do func(p api.Program)) {
	t.Helper()
	d := drawer{dice(), wild}
	for range n {
		do(parsed(t, d.program()))
	}
}

// enough makes sure that each outcome was drawn often.
func enough(t *testing.T, seen map[string]int, least int, all string) {
	t.Helper()
	for _, what := range strings.Fields(all) {
		if seen[what] < least {
			t.Error("hardly drawn:", what, seen)
		}
	}
}

func TestDrawnT1(t *testing.T) {
	seen := map[string]int{}
	drawn(t, 3000, true, func(p api.Program) {
		before := copied(t, p)
		e, _ := scope.Check(p)
		var numbers []int
		if e == api.OK {
			numbers = least(t, len(p.Decls), 4, holds(p))
			if numbers == nil {
				e = api.ErrStrata
			}
		}
		for range 2 {
			if got, c := Strata(p); !slices.Equal(got, numbers) || c != e {
				t.Fatalf("%s: %d %d, not %d %d", printer.Print(p), got, c, numbers, e)
			}
		}
		if !reflect.DeepEqual(p, before) {
			t.Fatal("written into:", printer.Print(before))
		}
		seen[fmt.Sprint("e", e)]++
		if e == api.OK {
			seen[fmt.Sprint("most", slices.Max(numbers))]++
		}
	})
	enough(t, seen, 50, "e0 e60 e61 e62 e80 most0 most1 most2 most3")
}

func TestRulesT2(t *testing.T) {
	p := parsed(t, declared+"q(@a,1). a p(@S,X) :- q(@S,X), !t(@S,X). b q(@S,X) :- t(@S,X). c p(@S,X) :- t(@S,X). d u(@S,min<X>) :- p(@S,X). e q(@S,1) :- t(@S,X). f u(@S,X) :- q(@S,X). a p(@S,X) :- q(@S,X), !t(@S,X).")
	for n, labels := range map[int]string{0: "be", 1: "aca", 2: "df", 3: "", 4: "", -1: "", -2: "", api.MaxInt: "", -1 << 63: "", 1<<63 - 1: ""} {
		got := ""
		for _, r := range Rules(p, n) {
			got += r.Label
			if k := slices.IndexFunc(p.Rules, func(x api.Rule) bool { return reflect.DeepEqual(x, r) }); k < 0 {
				t.Error("no rule of the program:", r)
			}
		}
		if got != labels {
			t.Errorf("%d: %s, not %s", n, got, labels)
		}
	}
	for what, p := range map[string]api.Program{"nothing": {}, "no rules": parsed(t, declared+"p(@a,1)."), "no numbers": parsed(t, declared+"a p(@S,min<X>) :- p(@S,X). b q(@S,X) :- t(@S,X).")} {
		for n := -1; n < 3; n++ {
			if l := Rules(p, n); len(l) > 0 {
				t.Error(what, n, l)
			}
		}
	}
}

// TestDrawnT2: each rule stands in the stratum of its head's relation, and in no other one.
func TestDrawnT2(t *testing.T) {
	seen := map[string]int{}
	drawn(t, 3000, true, func(p api.Program) {
		numbers, e := Strata(p)
		for n := -1; n < 6; n++ {
			var want []string
			for _, r := range p.Rules {
				if e == api.OK && numbers[numberOf(p, r.Head)] == n {
					want = append(want, printer.Rule(r))
				}
			}
			var got []string
			for _, r := range Rules(p, n) {
				got = append(got, printer.Rule(r))
			}
			if !slices.Equal(got, want) {
				t.Fatalf("%s: rules of %d are %q, not %q", printer.Print(p), n, got, want)
			}
			seen[fmt.Sprint(n, "of", len(got))]++
		}
	})
	enough(t, seen, 50, "0of1 0of2 1of1 1of2 1of3 2of1 2of2 2of3")
}

// TestMemoryT2: what is written into rules that were told is nowhere else.
func TestMemoryT2(t *testing.T) {
	s := declared + "r p(@S,f_cons(X,[1,[2]])) :- q(@S,X), !t(@S,[[3]]), u(@S,f_first([4]))."
	p := parsed(t, s)
	// Both rules have one memory, with room behind.
	p.Rules = append(make([]api.Rule, 0, 8), p.Rules[0], p.Rules[0])
	want := printer.Print(p)
	first, second := Rules(p, 1), Rules(p, 1)
	text := printer.Rule(p.Rules[0])
	if len(first) != 2 || len(second) != 2 {
		t.Fatal(first, second)
	}
	for _, l := range [][]api.Rule{first, second} {
		spoilt := l[0]
		spoilt.Args[1].Args[1].Value.List[1].List[0].Int = 9
		spoilt.Args[1].Args[1].Value.List[0].Int = 9
		spoilt.Args[1].Args[0].Name = "Z"
		spoilt.Args[0].Name = "Z"
		spoilt.Body[1].Args[1].Value.List[0].List[0].Int = 9
		spoilt.Body[2].Args[1].Args[0].Value.List[0].Int = 9
		spoilt.Body[0].Args[1].Name = "Z"
		spoilt.Body[0].Name = "z"
		_ = append(spoilt.Body, api.Literal{})
		_ = append(spoilt.Args, api.Term{})
		_ = append(spoilt.Body[0].Args, api.Term{})
		if got := printer.Rule(l[1]); got != text {
			t.Error("two rules of one answer:", got)
		}
	}
	if got := printer.Print(p); got != want {
		t.Error("written into:", got)
	}
	if got := Rules(p, 1); len(got) != 2 || printer.Rule(got[0]) != text || printer.Rule(got[1]) != text {
		t.Error("another answer:", got)
	}
}

// TestMemoryT1: numbers are memory of their own.
func TestMemoryT1(t *testing.T) {
	p := parsed(t, declared+"a p(@S,X) :- q(@S,X), !t(@S,X).")
	l, _ := Strata(p)
	for i := range l[:cap(l)] {
		l[:cap(l)][i] = 7
	}
	if got, e := Strata(p); !slices.Equal(got, []int{1, 0, 0, 0, 0}) || e != api.OK {
		t.Error(got, e)
	}
}

func TestCheckT3(t *testing.T) {
	for s, w := range map[string]want{
		"": {api.OK, -1}, "p(@a,1). r p(@S,X) :- q(@S,X).": {api.OK, -1}, "r p(@S,X) :- q(@S,X), !t(@S,X). s t(@S,count<X>) :- u(@S,X).": {api.OK, -1}, "r p(@S,X) :- link(@S,D,C), p(@D,X), !q(@D,X).": {api.OK, -1},
		"r p(@S,X) :- q(@S,X), !p(@S,X).": {api.ErrStrata, -1}, "r q(@S,X) :- t(@S,X). s p(@S,X) :- q(@S,X). u t(@S,min<X>) :- p(@S,X).": {api.ErrStrata, -1}, "r p(@D,X) :- link(@S,D,C), q(@D,X), !p(@S,X).": {api.ErrStrata, -1},
		// The first of them is chapter 6's, then chapter 7's.
		"r p(@S,X) :- q(@S,X), !p(@S,X). s p(@a,X) :- q(@S,X).": {api.ErrPlace, 1}, "r p(@S,X) :- q(@S,X), !p(@S,X). s p(@a,X) :- q(@S,X). t p(@S,Y) :- q(@S,X).": {api.ErrBound, 2}, "r p(@S,X) :- q(@S,X), !p(@S,X). w(@a).": {api.ErrArity, -1},
	} {
		if e, n := Check(parsed(t, declared+s)); e != w.e || n != w.n {
			t.Errorf("%s: %d %d, not %v", s, e, n, w)
		}
	}
	if e, n := Check(api.Program{}); e != api.OK || n != -1 {
		t.Error(e, n)
	}
}

func TestDrawnT3(t *testing.T) {
	seen := map[string]int{}
	drawn(t, 5000, true, func(p api.Program) {
		e, n := locate.Check(p)
		if e == api.OK && !slices.Equal(reachedAgain(p), nil) {
			e, n = api.ErrStrata, -1
		}
		before := copied(t, p)
		for range 2 {
			if c, k := Check(p); c != e || k != n {
				t.Fatalf("%s: %d %d, not %d %d", printer.Print(p), c, k, e, n)
			}
		}
		if !reflect.DeepEqual(p, before) {
			t.Fatal("written into:", printer.Print(before))
		}
		seen[fmt.Sprint("e", e)]++
	})
	enough(t, seen, 50, "e0 e60 e61 e62 e70 e80")
}

// reachedAgain are the relations that hang on themselves, at a step of it strictly.
func reachedAgain(p api.Program) []int {
	var out []int
	for i, l := range reached(len(p.Decls), holds(p)) {
		if l[i] == 2 {
			out = append(out, i)
		}
	}
	return out
}

// TestNoNumbersT4: there are none just if a relation hangs on itself, at a step of it strictly.
func TestNoNumbersT4(t *testing.T) {
	seen := map[string]int{}
	drawn(t, 5000, false, func(p api.Program) {
		_, e := Strata(p)
		none := len(reachedAgain(p)) > 0
		if none != (e == api.ErrStrata) || !none && e != api.OK {
			t.Fatalf("%s: %d, and %v", printer.Print(p), e, reachedAgain(p))
		}
		seen[fmt.Sprint(none)]++
	})
	enough(t, seen, 500, "true false")
}

// TestRiseT4: each number from 1 on has one below it, which its relation hangs on strictly, over others of its number or not.
func TestRiseT4(t *testing.T) {
	seen := map[string]int{}
	drawn(t, 5000, false, func(p api.Program) {
		numbers, e := Strata(p)
		if e != api.OK {
			return
		}
		l := holds(p)
		for i, n := range numbers {
			if n == 0 {
				continue
			}
			direct, over := below(numbers, l, i)
			if !direct && !over {
				t.Fatalf("%s: %d, and %d is without reason", printer.Print(p), numbers, i)
			}
			seen[fmt.Sprint(n, ",", direct)]++
		}
	})
	enough(t, seen, 50, "1,true 1,false 2,true 2,false 3,true")
}

// below tells whether a relation hangs strictly on one of the number below its own: itself, or over others of its number.
func below(numbers []int, l []hold, relation int) (direct, over bool) {
	level := reached(len(numbers), slices.DeleteFunc(slices.Clone(l), func(h hold) bool { return numbers[h.head] != numbers[h.on] }))
	for _, h := range l {
		if !h.strictly || numbers[h.on] != numbers[relation]-1 {
			continue
		}
		direct = direct || h.head == relation
		over = over || level[relation][h.head] > 0
	}
	return direct, over
}

// TestOrderT4: rules in another order, and literals in another one where that is right, have the same numbers.
func TestOrderT4(t *testing.T) {
	roll := dice()
	literals := 0
	drawn(t, 2000, false, func(p api.Program) {
		numbers, e := Strata(p)
		for range 4 {
			other := copied(t, p)
			other.Rules = shuffled(roll, other.Rules)
			if got, c := Strata(other); !slices.Equal(got, numbers) || c != e {
				t.Fatalf("%s: %d %d; %s: %d %d", printer.Print(p), numbers, e, printer.Print(other), got, c)
			}
			for i := range other.Rules {
				other.Rules[i].Body = shuffled(roll, other.Rules[i].Body)
			}
			if c, _ := scope.Check(other); c != api.OK {
				continue
			}
			literals++
			if got, c := Strata(other); !slices.Equal(got, numbers) || c != e {
				t.Fatalf("%s: %d %d; %s: %d %d", printer.Print(p), numbers, e, printer.Print(other), got, c)
			}
		}
	})
	if literals < 500 {
		t.Error("hardly any:", literals)
	}
}
