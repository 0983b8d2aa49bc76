package fire

import (
	"cmp"
	"reflect"
	"slices"
	"testing"
	"unsafe"

	"beaconry/api"
)

// roomy is a copy that has room behind its length, with a mark in it.
func roomy[T any](l []T, copied func(T) T, mark T) []T {
	out := make([]T, 0, len(l)+1)
	for _, x := range l {
		out = append(out, copied(x))
	}
	return append(out, mark)[:len(l)]
}

func roomyValues(l []api.Value) []api.Value { return roomy(l, roomyValue, addr("mark")) }

func roomyValue(x api.Value) api.Value {
	x.List = roomyValues(x.List)
	return x
}

func roomyRows(l []api.Row) []api.Row {
	return roomy(l, func(r api.Row) api.Row {
		r.Args = roomyValues(r.Args)
		return r
	}, api.Row{Name: "mark"})
}

func roomyTerms(l []api.Term) []api.Term {
	return roomy(l, func(x api.Term) api.Term {
		x.Value, x.Args = roomyValue(x.Value), roomyTerms(x.Args)
		return x
	}, v("Mark"))
}

func roomyRule(r api.Rule) api.Rule {
	r.Args = roomyTerms(r.Args)
	r.Body = roomy(r.Body, func(x api.Literal) api.Literal {
		x.Args = roomyTerms(x.Args)
		return x
	}, atom("mark"))
	return r
}

// opened is a copy in which what stood behind a length stands within it.
func opened[T any](l []T, open func(T) T) []T {
	out := slices.Clone(l[:cap(l)])
	for i, x := range out {
		out[i] = open(x)
	}
	return out
}

func openedValue(x api.Value) api.Value {
	x.List = opened(x.List, openedValue)
	return x
}

func openedRow(x api.Row) api.Row {
	x.Args = opened(x.Args, openedValue)
	return x
}

func openedTerm(x api.Term) api.Term {
	x.Value, x.Args = openedValue(x.Value), opened(x.Args, openedTerm)
	return x
}

func openedLiteral(x api.Literal) api.Literal {
	x.Args = opened(x.Args, openedTerm)
	return x
}

// spoil writes into all lists, and into the room behind them.
func spoil(l []api.Value) {
	for i, x := range l[:cap(l)] {
		spoil(x.List)
		l[:cap(l)][i] = text("spoilt")
	}
}

func spoilRows(l []api.Row) {
	for i, x := range l[:cap(l)] {
		spoil(x.Args)
		l[:cap(l)][i] = api.Row{Name: "spoilt"}
	}
}

func spoilTerms(l []api.Term) {
	for i, x := range l[:cap(l)] {
		spoil(x.Value.List)
		spoilTerms(x.Args)
		l[:cap(l)][i] = v("Spoilt")
	}
}

// given is what calls are handed, all of it with room behind.
type given struct {
	rules []api.Rule
	rows  []api.Row
}

func handed(t *testing.T) given {
	t.Helper()
	l := rowsOf(t, "q(b,[[1],[2]]):3 q(a,[[1],[2]]):7 t(a,[1],3):5 q(a,[[1],[2]]):9 t(b,[2],[[4]]):2 q(b,[]):1 l(a,b,1):6 l(b,a,[[2]]):4")
	var rules []api.Rule
	for _, s := range []string{
		"p(@S,L,L) :- q(@S,L)", "p(@S,L,[[1],[2]],f_first(L),[[1],[2]]) :- q(@S,L), !q(@S,[[3]])", "p(@S,M) :- q(@S,L), M := f_cons([[5]],f_cons(L,f_cons(L,[])))", "p(@S,M,N) :- q(@S,L), M := L, N := [[6],[7]], f_size(M) != 9", "p(@D,L,X) :- l(@S,D,X), q(@S,L), t(@S,[1],Y), q(@D,M)",
		"p(@S,L,M) :- q(@S,L), q(@D,M), A := [[1]], B := A, C := f_cons(A,B), !t(@S,C,D), E := f_append(L,C)", "p(@a,[[1]]) :- [[1]] == [[1]]", "p(@S,X) :- q(@S,[]), q(@S,X), [[1],[2]] == X",
	} {
		rules = append(rules, roomyRule(ruleOf(t, s)))
	}
	// A rule and rows that are not right may have lists beside what they are.
	odd := api.Value{Kind: api.Int, Int: 4, List: []api.Value{list(num(1))}}
	rules = append(rules, roomyRule(api.Rule{Head: "p", Args: []api.Term{c(odd), v("X")}, Body: []api.Literal{atom("odd", v("X"))}}))
	return given{rules, roomyRows(append(l, api.Row{Name: "odd", Args: []api.Value{odd}, Stamp: 1}))}
}

// unlike tells whether what was handed in is another one than it was.
func (g given) unlike(t *testing.T) bool {
	t.Helper()
	was := handed(t)
	for i, r := range g.rules {
		o := was.rules[i]
		if !reflect.DeepEqual(opened(r.Args, openedTerm), opened(o.Args, openedTerm)) || !reflect.DeepEqual(opened(r.Body, openedLiteral), opened(o.Body, openedLiteral)) {
			return true
		}
	}
	return !reflect.DeepEqual(opened(g.rows, openedRow), opened(was.rows, openedRow))
}

func (g given) spoil() {
	for _, r := range g.rules {
		spoilTerms(r.Args)
		for i, x := range r.Body[:cap(r.Body)] {
			spoilTerms(x.Args)
			r.Body[:cap(r.Body)][i] = atom("spoilt")
		}
	}
	spoilRows(g.rows)
}

// answers are of all calls: those of Merge, and of Fire by each rule.
func (g given) answers(t *testing.T) [][]api.Row {
	t.Helper()
	out := [][]api.Row{Merge(g.rows), Merge(g.rows[:1])}
	for i, r := range g.rules {
		l := Fire(r, g.rows)
		if len(l) == 0 {
			t.Fatal("nothing follows by rule", i)
		}
		out = append(out, l)
	}
	Compare(g.rows[0], g.rows[1])
	return out
}

func sameLists(a, b [][]api.Row) bool { return slices.EqualFunc(a, b, sameRows) }

// TestHandedInStays: rule R3.
func TestHandedInStays(t *testing.T) {
	g := handed(t)
	l := g.answers(t)
	if g.unlike(t) {
		t.Fatal("what was handed in is written into")
	}
	for _, x := range l {
		spoilRows(x)
		_ = append(x, api.Row{})
	}
	if g.unlike(t) {
		t.Error("what was handed in is handed out")
	}
}

// TestAnswersStay: nor do later calls change what earlier ones gave.
func TestAnswersStay(t *testing.T) {
	want := handed(t).answers(t)
	g := handed(t)
	got := g.answers(t)
	if again := g.answers(t); !sameLists(again, want) {
		t.Error("another answer the second time")
	} else {
		for _, x := range again {
			spoilRows(x)
		}
	}
	g.spoil()
	if !sameLists(got, want) {
		t.Error("what was handed in is kept")
	}
}

// span is where a list lies, with the room behind it.
type span struct{ from, to uintptr }

func spanOf[T any](l []T) span {
	var one T
	from := uintptr(unsafe.Pointer(unsafe.SliceData(l)))
	return span{from, from + uintptr(cap(l))*unsafe.Sizeof(one)}
}

func spansOf(l []api.Row) []span {
	out := []span{spanOf(l)}
	for _, r := range l[:cap(l)] {
		out = append(out, spansOfValues(r.Args)...)
	}
	return out
}

func spansOfValues(l []api.Value) []span {
	out := []span{spanOf(l)}
	for _, x := range l[:cap(l)] {
		out = append(out, spansOfValues(x.List)...)
	}
	return out
}

// apart tells whether no two of them have a byte in common.
func apart(l []span) bool {
	l = slices.DeleteFunc(l, func(s span) bool { return s.from == s.to })
	slices.SortFunc(l, func(a, b span) int { return cmp.Compare(a.from, b.from) })
	for i := range len(l) - 1 {
		if l[i].to > l[i+1].from {
			return false
		}
	}
	return true
}

// TestListsLieApart: no two lists of answers share memory, not even where one list stood for several.
func TestListsLieApart(t *testing.T) {
	g := handed(t)
	both := roomyValue(list(list(num(1)), list(num(2))))
	both.List[0] = both.List[1]
	args := roomyValues([]api.Value{addr("a"), both, both})
	args[1], args[2] = both, both
	g.rows = append(g.rows, api.Row{Name: "x", Args: args, Stamp: 1}, api.Row{Name: "y", Args: args, Stamp: 2}, api.Row{Name: "x", Args: args, Stamp: 3})
	rule := ruleOf(t, "p(@S,L,L,M,[],[],M) :- x(@S,L,L), y(@S,K,N), M := f_cons(L,f_cons(N,K))")
	rule.Args[4], rule.Args[5] = c(both), c(both)
	g.rules = append(g.rules, rule, rule)
	var all []span
	for _, l := range g.answers(t) {
		all = append(all, spansOf(l)...)
		if !apart(slices.Clone(all)) {
			t.Fatal("memory is shared:", telling(l))
		}
	}
}
