package group

import (
	"cmp"
	"fmt"
	"reflect"
	"slices"
	"strings"
	"testing"

	"beaconry/api"
)

// lists are all lists within x, at whatever depth, each with the room behind its length.
func lists(x reflect.Value) []reflect.Value {
	var out []reflect.Value
	switch x.Kind() {
	case reflect.Slice:
		x = x.Slice(0, x.Cap())
		out = append(out, x)
		for i := range x.Len() {
			out = append(out, lists(x.Index(i))...)
		}
	case reflect.Struct:
		for i := range x.NumField() {
			out = append(out, lists(x.Field(i))...)
		}
	}
	return out
}

// makeRoom lays each list within x anew, with room behind its length, and a mark in that.
func makeRoom(x reflect.Value) {
	switch x.Kind() {
	case reflect.Slice:
		n := x.Len()
		out := reflect.MakeSlice(x.Type(), n+1, n+1)
		reflect.Copy(out, x)
		for i := range n {
			makeRoom(out.Index(i))
		}
		mark(out.Index(n))
		x.Set(out.Slice(0, n))
	case reflect.Struct:
		for i := range x.NumField() {
			makeRoom(x.Field(i))
		}
	}
}

// mark makes a part of a list another one than any that is handed in: all its texts are marks.
func mark(x reflect.Value) {
	x.SetZero()
	for i := 0; x.Kind() == reflect.Struct && i < x.NumField(); i++ {
		if x.Field(i).Kind() == reflect.String {
			x.Field(i).SetString("mark")
		}
	}
}

// spoil writes into all lists, and into the room behind them.
func spoil(x any) {
	for _, l := range slices.Backward(lists(reflect.ValueOf(x))) {
		for i := range l.Len() {
			mark(l.Index(i))
		}
	}
}

// told is what stands in all lists, and in the room behind them.
func told(x any) string {
	var out []string
	for _, l := range lists(reflect.ValueOf(x)) {
		out = append(out, fmt.Sprintf("%#v", l))
	}
	return strings.Join(out, "\n")
}

// given is what calls are handed.
type given struct {
	Rules []api.Rule
	Rows  []api.Row
}

// handed has room behind each list.
func handed(t *testing.T) given {
	t.Helper()
	g := given{Rows: rowsOf(t, "p(b,[[1],[2]],[3]):3 p(a,[[1],[2]],[3]):7 p(a,[[1],[2]],[4]):5 p(a,[[1],[2]],[3]):9 p(a,[[0]],[3]):2 p(b,[5],[[4]]):1 p(a,[[1],[2]],[[],[6]]):1 p(b,[5],[]):4 p(b,1):2 p(a):6 q(a,[[1]],[[2]]):1")}
	// What is left away has lists, too.
	g.Rows = append(g.Rows, api.Row{Name: "p", Args: []api.Value{list(list(num(1)))}, Stamp: 1})
	for _, s := range []string{
		"best(@S,L,M) :- p(@S,L,M)", "best(@S,L,min<M>) :- p(@S,L,M)", "best(@S,L,max<M>) :- p(@S,L,M)", "best(@S,L,count<M>) :- p(@S,L,M)", "best(@S,min<L>,M,[[7],[8]]) :- p(@S,L,M)", "best(@S,max<N>,L,L) :- p(@S,L,M), N := f_cons([[9]],M)", "best(@S,count<L>,f_cons(L,L)) :- p(@S,L,M), L != [[3]]", "best(@a,[[1]],min<X>) :- X := [[2]]",
	} {
		g.Rules = append(g.Rules, ruleOf(t, s))
	}
	makeRoom(reflect.ValueOf(&g).Elem())
	return g
}

// answers are of all calls: those of Group, of each aggregate at each place, and of Rule by each rule.
func (g given) answers(t *testing.T) [][]api.Row {
	t.Helper()
	out := [][]api.Row{Group("sum", 1, g.Rows), Group("min", 0, g.Rows), Group("min", 9, g.Rows), Group("max", 1, g.Rows[:1])}
	for _, agg := range []string{"min", "max", "count"} {
		out = append(out, Group(agg, 1, g.Rows), Group(agg, 2, g.Rows))
	}
	for i, r := range g.Rules {
		l := Rule(r, g.Rows)
		if len(l) == 0 {
			t.Fatal("nothing follows by rule", i)
		}
		r.Agg = "sum"
		out = append(out, l, Rule(r, g.Rows))
	}
	return out
}

// TestHandedInStays: rule R3.
func TestHandedInStays(t *testing.T) {
	g := handed(t)
	was := told(g)
	l := g.answers(t)
	if told(g) != was {
		t.Fatal("what was handed in is written into")
	}
	spoil(l)
	if told(g) != was {
		t.Error("what was handed in is handed out")
	}
}

// TestAnswersStay: nor do later calls, or what becomes of what was handed in, change what earlier ones gave.
func TestAnswersStay(t *testing.T) {
	want := handed(t).answers(t)
	g := handed(t)
	got := g.answers(t)
	again := g.answers(t)
	if !slices.EqualFunc(again, want, sameRows) {
		t.Error("another answer the second time")
	}
	spoil(again)
	spoil(g)
	if !slices.EqualFunc(got, want, sameRows) {
		t.Error("what was handed in is kept")
	}
}

// span is where a list lies, with the room behind it.
type span struct{ from, to uintptr }

func spansOf(x any) []span {
	var out []span
	for _, l := range lists(reflect.ValueOf(x)) {
		if l.Len() > 0 {
			from := l.Pointer()
			out = append(out, span{from, from + uintptr(l.Len())*l.Type().Elem().Size()})
		}
	}
	return out
}

// TestListsLieApart: no two lists of answers share memory, not even where one list stood for several.
func TestListsLieApart(t *testing.T) {
	g := handed(t)
	both := list(list(num(1)), list(num(2)))
	both.List[0] = both.List[1]
	args := []api.Value{addr("a"), both, both}
	other := []api.Value{addr("b"), both, both}
	g.Rows = append(g.Rows, api.Row{Name: "p", Args: args, Stamp: 1}, api.Row{Name: "q", Args: args, Stamp: 2}, api.Row{Name: "p", Args: other, Stamp: 3}, api.Row{Name: "p", Args: slices.Repeat(args[1:], 2), Stamp: 3})
	rule := ruleOf(t, "best(@S,L,min<M>,L,[],[]) :- p(@S,L,M), q(@T,L,L)")
	rule.Args[4].Value, rule.Args[5].Value = both, both
	g.Rules = append(g.Rules, rule, rule)
	answers := g.answers(t)
	all := spansOf(answers)
	slices.SortFunc(all, func(a, b span) int { return cmp.Compare(a.from, b.from) })
	for i := range len(all) - 1 {
		if all[i].to > all[i+1].from {
			t.Fatal("answers share memory")
		}
	}
	was := told(g)
	spoil(answers)
	if told(g) != was {
		t.Error("answers share memory with what was handed in")
	}
}
