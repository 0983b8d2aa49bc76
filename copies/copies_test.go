package copies

import (
	"reflect"
	"testing"

	"beaconry/api"
	"beaconry/parser"
)

const text = `materialize(p,4). r1 p(@S,X,f_append(L,[1,[a,["x"]]]),min<Y>) :- p(@S,X,f_cons(1,f_rest(L)),[[2],[]]), !p(@S,X,(X+[3]),L), f_size([[4]]) < (X*2), Y := f_first([[5]]).`

func made(t *testing.T) api.Rule {
	t.Helper()
	p, e, at := parser.Parse(text)
	if e != api.OK {
		t.Fatal(e, at)
	}
	return p.Rules[0]
}

// spoil writes into all lists of a rule, and into the room behind them.
func spoil(r api.Rule) {
	spoilTerms(r.Args)
	for i := range r.Body[:cap(r.Body)] {
		l := &r.Body[:cap(r.Body)][i]
		spoilTerms(l.Args)
		*l = api.Literal{Name: "spoilt"}
	}
}

func spoilTerms(l []api.Term) {
	for i := range l[:cap(l)] {
		x := &l[:cap(l)][i]
		spoilTerms(x.Args)
		spoilValues(x.Value.List)
		*x = api.Term{Name: "spoilt"}
	}
}

func spoilValues(l []api.Value) {
	for i := range l[:cap(l)] {
		x := &l[:cap(l)][i]
		spoilValues(x.List)
		*x = api.Value{Text: "spoilt"}
	}
}

func TestRuleIsTheSame(t *testing.T) {
	for _, r := range []api.Rule{made(t), {}, {Label: "r", Head: "p", Args: []api.Term{}, Agg: "min", At: 3, Body: []api.Literal{{}, {Args: []api.Term{}}}}} {
		if got := Rule(r); !reflect.DeepEqual(got, r) {
			t.Errorf("%v, not %v", got, r)
		}
	}
}

func TestRuleSharesNothing(t *testing.T) {
	r, want := made(t), made(t)
	spoil(Rule(r))
	if !reflect.DeepEqual(r, want) {
		t.Error("what was handed in is changed:", r)
	}
	got := Rule(r)
	spoil(r)
	if !reflect.DeepEqual(got, want) {
		t.Error("what was answered is changed:", got)
	}
}

// TestRuleOfSharedParts: lists that are one in the rule are several in its copy.
func TestRuleOfSharedParts(t *testing.T) {
	r := made(t)
	r.Body[1].Args = r.Args
	r.Body[0].Args[3] = r.Args[2]
	got := Rule(r)
	spoilTerms(got.Args)
	if !reflect.DeepEqual(got.Body, r.Body) {
		t.Error("parts of a copy share memory:", got.Body)
	}
}
