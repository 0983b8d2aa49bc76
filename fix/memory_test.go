package fix

import (
	"cmp"
	"fmt"
	"reflect"
	"slices"
	"strings"
	"testing"

	"beaconry/api"
)

// lists are all lists within x, at whatever depth, each with the room behind its length.
func lists(x reflect.Value) []reflect.Value {
	var out []reflect.Value
	switch x.Kind() {
	case reflect.Slice:
		x = x.Slice(0, x.Cap())
		out = append(out, x)
		for i := range x.Len() {
			out = append(out, lists(x.Index(i))...)
		}
	case reflect.Struct:
		for i := range x.NumField() {
			out = append(out, lists(x.Field(i))...)
		}
	}
	return out
}

// makeRoom lays each list within x anew, with room behind its length, and a mark in that.
func makeRoom(x reflect.Value) {
	switch x.Kind() {
	case reflect.Slice:
		n := x.Len()
		out := reflect.MakeSlice(x.Type(), n+1, n+1)
		reflect.Copy(out, x)
		for i := range n {
			makeRoom(out.Index(i))
		}
		mark(out.Index(n))
		x.Set(out.Slice(0, n))
	case reflect.Struct:
		for i := range x.NumField() {
			makeRoom(x.Field(i))
		}
	}
}

// mark makes a part of a list another one than any that is handed in: all its texts are marks.
func mark(x reflect.Value) {
	x.SetZero()
	for i := 0; x.Kind() == reflect.Struct && i < x.NumField(); i++ {
		if x.Field(i).Kind() == reflect.String {
			x.Field(i).SetString("mark")
		}
	}
}

// spoil writes into all lists, and into the room behind them.
func spoil(x any) {
	for _, l := range slices.Backward(lists(reflect.ValueOf(x))) {
		for i := range l.Len() {
			mark(l.Index(i))
		}
	}
}

// told is what stands in all lists, and in the room behind them.
func told(x any) string {
	var out []string
	for _, l := range lists(reflect.ValueOf(x)) {
		out = append(out, fmt.Sprintf("%#v", l))
	}
	return strings.Join(out, "\n")
}

// given is what calls are handed.
type given struct {
	Programs []api.Program
	Rows     []api.Row
}

// handed has room behind each list.
func handed(t *testing.T) given {
	t.Helper()
	g := given{Rows: rowsOf(t, "p(b,[[1],[2]]):3 p(a,[[1],[2]]):7 p(a,[[1]]):5 p(a,[[1],[2]]):9 q(a,[[0]]):2 q(b,[5]):1 q(a,[[1],[2]]):1 t(a,[[7]]):4 q(a,b):2 link(a,b,[[1],[2]]):6 none(a):3 none():1 q([[a]],[[b]]):1")}
	for _, rules := range [][]string{
		nil,
		{"p(@S,X) :- q(@S,X)"},
		{"r(@S,X) :- p(@S,X)", "r(@S,X) :- t(@S,X)", "s(@S,max<X>) :- r(@S,X)", "t(@S,[[3],[4]]) :- s(@S,X), !q(@S,X)"},
		{"r(@X,L) :- q(@S,X), t(@S,L)", "s(@b,f_cons(X,[])) :- q(@S,X)", "p(@S,Y) :- q(@S,X), Y := f_cons([9],X)"},
		{"p(@a,X) :- X := [[6],[]]", "p(@b,X) :- X := [[6],[]]", "s(@S,count<X>) :- p(@S,X)"},
		{"p(@S,X) :- q(@S,X), !p(@S,X)"},
	} {
		g.Programs = append(g.Programs, programOf(t, rules...))
	}
	facts := parsed(t, declared+"q(@a,[[1],[2]]). q(@b,[[1],[2]]). q(@a,[[1],[2]]). link(@a,b,[[]]). p(@c,1). r p(@S,X) :- q(@S,X), X != [[5]].")
	g.Programs = append(g.Programs, facts, facts)
	makeRoom(reflect.ValueOf(&g).Elem())
	return g
}

// answers are of all calls, whole ones and not.
func (g given) answers(t *testing.T) [][]api.Row {
	t.Helper()
	var out [][]api.Row
	for i, p := range g.Programs {
		for _, most := range []int{-1, 0, 5, 14, 400} {
			l, _ := Fix(p, g.Rows, most)
			out = append(out, l)
			for _, place := range []string{"a", "b", "z"} {
				here, others, whole := At(p, g.Rows, place, most)
				if whole && (len(here) == 0) != (place == "z") {
					t.Fatal("program", i, "at", place, len(here))
				}
				out = append(out, here, others)
			}
		}
		out = append(out, Base(p, 3))
	}
	return out
}

// TestHandedInStays: rule R3.
func TestHandedInStays(t *testing.T) {
	g := handed(t)
	was := told(g)
	l := g.answers(t)
	if told(g) != was {
		t.Fatal("what was handed in is written into")
	}
	spoil(l)
	if told(g) != was {
		t.Error("what was handed in is handed out")
	}
}

// TestAnswersStay: nor do later calls, or what becomes of what was handed in, change what earlier ones gave.
func TestAnswersStay(t *testing.T) {
	want := handed(t).answers(t)
	g := handed(t)
	got := g.answers(t)
	again := g.answers(t)
	if !slices.EqualFunc(again, want, sameRows) {
		t.Error("another answer the second time")
	}
	spoil(again)
	spoil(g)
	if !slices.EqualFunc(got, want, sameRows) {
		t.Error("what was handed in is kept")
	}
}

// TestAnswersGrow: what is put behind the one list of an answer is not seen in the other, nor in a later answer.
func TestAnswersGrow(t *testing.T) {
	g := handed(t)
	for _, p := range g.Programs {
		here, others, _ := At(p, g.Rows, "a", 400)
		want, was := telling(others), telling(here)
		for len(here) < 100 {
			here = append(here, api.Row{Name: "mark"})
		}
		again, _, _ := At(p, g.Rows, "a", 400)
		if telling(others) != want || telling(again) != was {
			t.Error(telling(again), "|", telling(others), "not", was, "|", want)
		}
	}
}

// span is where a list lies, with the room behind it.
type span struct{ from, to uintptr }

func spansOf(x any) []span {
	var out []span
	for _, l := range lists(reflect.ValueOf(x)) {
		if l.Len() > 0 {
			from := l.Pointer()
			out = append(out, span{from, from + uintptr(l.Len())*l.Type().Elem().Size()})
		}
	}
	return out
}

// TestListsLieApart: no two lists of answers share memory, not even where one list stood for several.
func TestListsLieApart(t *testing.T) {
	g := handed(t)
	both := list(list(num(1)), list(num(2)))
	both.List[0] = both.List[1]
	args := []api.Value{addr("a"), both}
	g.Rows = append(g.Rows, api.Row{Name: "p", Args: args, Stamp: 1}, api.Row{Name: "q", Args: args, Stamp: 2}, api.Row{Name: "p", Args: []api.Value{addr("b"), both}, Stamp: 3}, api.Row{Name: "q", Args: []api.Value{both, both}, Stamp: 3}, api.Row{Name: "q", Args: args, Stamp: 2})
	last := &g.Programs[len(g.Programs)-1]
	last.Facts = append(last.Facts, api.Tuple{Name: "p", Args: args}, api.Tuple{Name: "q", Args: args}, api.Tuple{Name: "link", Args: []api.Value{addr("c"), both, both}})
	last.Rules[0].Body[1].Args[1].Value = both
	answers := g.answers(t)
	all := spansOf(answers)
	slices.SortFunc(all, func(a, b span) int { return cmp.Compare(a.from, b.from) })
	for i := range len(all) - 1 {
		if all[i].to > all[i+1].from {
			t.Fatal("answers share memory")
		}
	}
	was := told(g)
	spoil(answers)
	if told(g) != was {
		t.Error("answers share memory with what was handed in")
	}
}
