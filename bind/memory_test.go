package bind

import (
	"reflect"
	"slices"
	"testing"

	"beaconry/api"
)

// roomy is a copy that has room behind its length, with a mark in it.
func roomy[T any](l []T, copied func(T) T, mark T) []T {
	out := make([]T, 0, len(l)+1)
	for _, x := range l {
		out = append(out, copied(x))
	}
	return append(out, mark)[:len(l)]
}

func roomyValues(l []api.Value) []api.Value { return roomy(l, roomyValue, addr("mark")) }

func roomyValue(x api.Value) api.Value {
	x.List = roomyValues(x.List)
	return x
}

func roomyTerms(l []api.Term) []api.Term { return roomy(l, roomyTerm, v("Mark")) }

func roomyTerm(x api.Term) api.Term {
	x.Value, x.Args = roomyValue(x.Value), roomyTerms(x.Args)
	return x
}

func roomyEnv(l []api.Bind) []api.Bind {
	return roomy(l, func(b api.Bind) api.Bind {
		b.Value = roomyValue(b.Value)
		return b
	}, api.Bind{Name: "Mark"})
}

// opened is a copy in which what stood behind a length stands within it.
func opened[T any](l []T, open func(T) T) []T {
	out := slices.Clone(l[:cap(l)])
	for i, x := range out {
		out[i] = open(x)
	}
	return out
}

func openedValue(x api.Value) api.Value {
	x.List = opened(x.List, openedValue)
	return x
}

func openedTerm(x api.Term) api.Term {
	x.Value, x.Args = openedValue(x.Value), opened(x.Args, openedTerm)
	return x
}

func openedBind(x api.Bind) api.Bind {
	x.Value = openedValue(x.Value)
	return x
}

// spoil writes into all lists, and into the room behind them.
func spoil(l []api.Value) {
	for i, x := range l[:cap(l)] {
		spoil(x.List)
		l[:cap(l)][i] = text("spoilt")
	}
}

func spoilTerms(l []api.Term) {
	for i, x := range l[:cap(l)] {
		spoil(x.Value.List)
		spoilTerms(x.Args)
		l[:cap(l)][i] = v("Spoilt")
	}
}

func spoilEnv(l []api.Bind) {
	for i, b := range l[:cap(l)] {
		spoil(b.Value.List)
		l[:cap(l)][i] = api.Bind{Name: "Spoilt"}
	}
}

// given is what calls are handed, all of it with room behind.
type given struct {
	args []api.Term
	l    []api.Value
	env  []api.Bind
}

func handed(t *testing.T) given {
	t.Helper()
	args := terms(t, "X,f_cons(X,f_cons([1,[b]],L)),[[a],[[2]]],Y,f_first(Y),L,Y")
	l := values(t, "1,[1,[1,[b]],[3,[4]]],[[a],[[2]]],[[5,[6]],7],[5,[6]],[[3,[4]]],[[5,[6]],7]")
	env := envOf(t, "W=[[8],[[9]]] L=[[3,[4]]] W=[[8]]")
	// Values that are not right may have lists beside what they are.
	odd := api.Value{Kind: api.Int, Int: 4, List: []api.Value{list(list(num(1)))}}
	env = append(env, api.Bind{Name: "Odd", Value: odd})
	args, l = append(args, v("Other"), c(odd)), append(l, odd, odd)
	return given{roomyTerms(args), roomyValues(l), roomyEnv(env)}
}

func (g given) opened() given {
	return given{opened(g.args, openedTerm), opened(g.l, openedValue), opened(g.env, openedBind)}
}

func (g given) spoil() {
	spoilTerms(g.args)
	spoil(g.l)
	spoilEnv(g.env)
}

// unlike tells whether what was handed in is another one than it was.
func (g given) unlike(t *testing.T) bool {
	return !reflect.DeepEqual(g.opened(), handed(t).opened())
}

// answer asks all calls, and Match of what it takes and what it does not.
func (g given) answer(t *testing.T) ([]api.Value, [][]api.Bind) {
	t.Helper()
	var out []api.Value
	for _, name := range []string{"W", "L", "Odd", "Other"} {
		x, ok := Lookup(g.env, name)
		if ok != (name != "Other") {
			t.Fatal(name, ok)
		}
		out = append(out, x)
	}
	by, ok := Match(g.args, g.l, g.env)
	if !ok {
		t.Fatal("no match")
	}
	for _, x := range append(g.args[:len(g.args):len(g.args)], call("f_cons", g.args...), op("+", g.args...), g.args[1].Args[0]) {
		y, _ := Eval(x, by)
		z, _ := Eval(x, g.env)
		out = append(out, y, z)
	}
	all := [][]api.Bind{by}
	for i := range g.args {
		l, _ := Match(g.args[:i], g.l[:i], g.env)
		all = append(all, l)
		l, _ = Match(g.args[i:], g.l[:len(g.l)-i], g.env)
		all = append(all, l)
	}
	return out, all
}

// TestHandedInStays: rule R3.
func TestHandedInStays(t *testing.T) {
	g := handed(t)
	x, all := g.answer(t)
	if g.unlike(t) {
		t.Fatal("what was handed in is written into")
	}
	spoil(x)
	for _, l := range all {
		spoilEnv(l)
	}
	if g.unlike(t) {
		t.Error("what was handed in is handed out")
	}
}

func TestAnswersStay(t *testing.T) {
	want, all := handed(t).answer(t)
	g := handed(t)
	got, other := g.answer(t)
	g.spoil()
	if !slices.EqualFunc(got, want, same) || !slices.EqualFunc(other, all, sameEnv) {
		t.Error("what was handed in is kept")
	}
}

// TestListsOfOneAnswer: no two of them share memory, even where one list stood for both.
func TestListsOfOneAnswer(t *testing.T) {
	inner := roomyValue(list(num(1), list(num(2))))
	twice := roomyValue(list())
	twice.List = append(twice.List[:0], inner, inner)
	args := terms(t, "X,Y,Z")
	l := []api.Value{twice, twice, inner}
	env := []api.Bind{{Name: "V", Value: inner}, {Name: "W", Value: twice}, {Name: "V", Value: inner}}
	want, _ := Match(args, l, env)
	for i := range want {
		got, ok := Match(args, l, env)
		if !ok || len(got) != 6 {
			t.Fatal(got, ok)
		}
		spoil(got[i].Value.List)
		_ = append(got[i].Value.List, num(9))
		if !sameEnv(got[:i], want[:i]) || !sameEnv(got[i+1:], want[i+1:]) {
			t.Errorf("others are written into as number %d is", i)
		}
	}
	for _, ask := range []func() (api.Value, bool){
		func() (api.Value, bool) { return Lookup(env, "W") },
		func() (api.Value, bool) { return Eval(v("W"), env) },
		func() (api.Value, bool) { return Eval(c(twice), env) },
		func() (api.Value, bool) { return Eval(terms(t, "f_cons(V,f_cons(V,[]))")[0], env) },
	} {
		got, ok := ask()
		if !ok || len(got.List) != 2 {
			t.Fatal(got, ok)
		}
		spoil(got.List[0].List)
		if !same(got.List[1], inner) {
			t.Error("one element is written into as another one is:", got)
		}
	}
}
