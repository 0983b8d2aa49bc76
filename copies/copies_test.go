package copies

import (
	"reflect"
	"testing"

	"beaconry/api"
	"beaconry/parser"
)

const text = `materialize(p,4). r1 p(@S,X,f_append(L,[1,[a,["x"]]]),min<Y>) :- p(@S,X,f_cons(1,f_rest(L)),[[2],[]]), !p(@S,X,(X+[3]),L), f_size([[4]]) < (X*2), Y := f_first([[5]]).`

func made(t *testing.T) api.Rule {
	t.Helper()
	p, e, at := parser.Parse(text)
	if e != api.OK {
		t.Fatal(e, at)
	}
	return p.Rules[0]
}

// spoil writes into all lists of a rule, and into the room behind them.
func spoil(r api.Rule) {
	spoilTerms(r.Args)
	for i := range r.Body[:cap(r.Body)] {
		l := &r.Body[:cap(r.Body)][i]
		spoilTerms(l.Args)
		*l = api.Literal{Name: "spoilt"}
	}
}

func spoilTerms(l []api.Term) {
	for i := range l[:cap(l)] {
		x := &l[:cap(l)][i]
		spoilTerms(x.Args)
		spoilValues(x.Value.List)
		*x = api.Term{Name: "spoilt"}
	}
}

func spoilValues(l []api.Value) {
	for i := range l[:cap(l)] {
		x := &l[:cap(l)][i]
		spoilValues(x.List)
		*x = api.Value{Text: "spoilt"}
	}
}

// binds are variables' values, one of them not right.
func binds(t *testing.T) []api.Bind {
	t.Helper()
	var l []api.Value
	for _, x := range made(t).Body[0].Args {
		l = append(l, x.Value)
	}
	wrong := api.Value{Kind: api.Int, Int: 1, Text: "a", List: l}
	return []api.Bind{{Name: "X", Value: api.Value{Kind: api.List, List: l}}, {Name: "Y", Value: wrong}, {Name: "X", Value: wrong}}
}

func TestRuleIsTheSame(t *testing.T) {
	for _, r := range []api.Rule{made(t), {}, {Label: "r", Head: "p", Args: []api.Term{}, Agg: "min", At: 3, Body: []api.Literal{{}, {Args: []api.Term{}}}}} {
		if got := Rule(r); !reflect.DeepEqual(got, r) {
			t.Errorf("%v, not %v", got, r)
		}
	}
}

func TestRuleSharesNothing(t *testing.T) {
	r, want := made(t), made(t)
	spoil(Rule(r))
	if !reflect.DeepEqual(r, want) {
		t.Error("what was handed in is changed:", r)
	}
	got := Rule(r)
	spoil(r)
	if !reflect.DeepEqual(got, want) {
		t.Error("what was answered is changed:", got)
	}
}

// TestRuleOfSharedParts: lists that are one in the rule are several in its copy.
func TestRuleOfSharedParts(t *testing.T) {
	r := made(t)
	r.Body[1].Args = r.Args
	r.Body[0].Args[3] = r.Args[2]
	got := Rule(r)
	spoilTerms(got.Args)
	if !reflect.DeepEqual(got.Body, r.Body) {
		t.Error("parts of a copy share memory:", got.Body)
	}
}

func TestBindsAndValuesAreTheSame(t *testing.T) {
	for _, l := range [][]api.Bind{binds(t), nil, {}, {{}}, {{Name: "X", Value: api.Value{List: []api.Value{}}}}} {
		if got := Binds(l); !reflect.DeepEqual(got, l) {
			t.Errorf("%v, not %v", got, l)
		}
		for _, b := range l {
			if got := Value(b.Value); !reflect.DeepEqual(got, b.Value) {
				t.Errorf("%v, not %v", got, b.Value)
			}
		}
	}
}

// TestBindsAndValuesShareNothing: not even with one another, where lists are one in what they are made of.
func TestBindsAndValuesShareNothing(t *testing.T) {
	l, want := binds(t), binds(t)
	values := []api.Value{Value(l[0].Value), Value(l[1].Value)}
	got := Binds(l)
	spoilValues(got[1].Value.List)
	spoilValues(values[1].List)
	if !reflect.DeepEqual(l, want) {
		t.Error("what was handed in is changed:", l)
	}
	if !reflect.DeepEqual(got[0], want[0]) || !reflect.DeepEqual(got[2], want[2]) || !reflect.DeepEqual(values[0], want[0].Value) {
		t.Error("parts of a copy share memory:", got, values)
	}
	got = Binds(l)
	spoilValues(l[0].Value.List)
	l[0] = api.Bind{}
	if !reflect.DeepEqual(got, want) || !reflect.DeepEqual(values[0], want[0].Value) {
		t.Error("what was answered is changed:", got, values)
	}
}

func rows(t *testing.T) []api.Row {
	t.Helper()
	l := binds(t)
	args := []api.Value{l[0].Value, l[1].Value}
	return []api.Row{{Name: "p", Args: args, Stamp: 3}, {Name: "q", Args: args[1:], Stamp: -1}, {Name: "p", Args: args, Stamp: api.Forever}}
}

func TestRowsAreTheSame(t *testing.T) {
	for _, l := range [][]api.Row{rows(t), nil, {}, {{}}, {{Stamp: 1}, {Name: "p", Args: []api.Value{}}}} {
		if got := Rows(l); !reflect.DeepEqual(got, l) {
			t.Errorf("%v, not %v", got, l)
		}
	}
}

// TestRowsShareNothing: not even with one another, where lists are one in what they are made of.
func TestRowsShareNothing(t *testing.T) {
	l, want := rows(t), rows(t)
	got := Rows(l)
	spoilValues(got[1].Args)
	if !reflect.DeepEqual(l, want) {
		t.Error("what was handed in is changed:", l)
	}
	if !reflect.DeepEqual(got[0], want[0]) || !reflect.DeepEqual(got[2], want[2]) {
		t.Error("parts of a copy share memory:", got)
	}
	got = Rows(l)
	spoilValues(l[0].Args)
	l[0] = api.Row{}
	if !reflect.DeepEqual(got, want) {
		t.Error("what was answered is changed:", got)
	}
}
