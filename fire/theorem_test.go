package fire

import (
	"slices"
	"testing"

	"beaconry/api"
	"beaconry/scope"
)

// positive draws a literal that is no LitNot.
func (d *drawer) positive() string {
	for {
		if s := d.literal(); s[0] != '!' {
			return s
		}
	}
}

// more are these rows, some of them with greater stamps, and others.
func (d *drawer) more(t *testing.T, l []api.Row) []api.Row {
	t.Helper()
	out := append(slices.Clone(l), d.rows(t, 6)...)
	for range d.below(3) {
		if len(l) > 0 {
			r := l[d.below(len(l))]
			r.Stamp += d.below(5) - 1
			out = append(out, r)
		}
	}
	// Whatever stands ahead counts as much.
	for i := range out {
		k := i + d.below(len(out)-i)
		out[i], out[k] = out[k], out[i]
	}
	return out
}

// stampOf is that of the same row among rows; false: there is none.
func stampOf(r api.Row, l []api.Row) (int, bool) {
	i := slices.IndexFunc(l, func(x api.Row) bool { return keyOfRow(x) == keyOfRow(r) })
	if i < 0 {
		return 0, false
	}
	return l[i].Stamp, true
}

func only(l []api.Row, keep func(api.Row) bool) []api.Row {
	return slices.DeleteFunc(slices.Clone(l), func(r api.Row) bool { return !keep(r) })
}

// TestMoreRowsF3: more rows make no fewer, nor ones with lesser stamps, without a LitNot.
func TestMoreRowsF3(t *testing.T) {
	d := &drawer{seed: 13}
	some, raised := 0, 0
	for range 6000 {
		r, l := d.rule(t, d.positive), d.rows(t, 16)
		more := d.more(t, l)
		few, many := Fire(r, l), Fire(r, more)
		for _, x := range few {
			stamp, ok := stampOf(x, many)
			if !ok || stamp < x.Stamp {
				t.Fatalf("%v of %s: %s; of %s: %s", r, telling(l), telling(few), telling(more), telling(many))
			}
			if stamp > x.Stamp {
				raised++
			}
		}
		some += min(1, len(few))
	}
	if some < 1000 || raised < 100 {
		t.Error("too few of one kind:", some, raised)
	}
}

// TestMoreRowsWithNotF3: with a LitNot they may make fewer.
func TestMoreRowsWithNotF3(t *testing.T) {
	r := ruleOf(t, "p(@S) :- q(@S,X), !t(@S,X)")
	if got := telling(Fire(r, rowsOf(t, "q(a,1):3 q(b,1):4"))); got != "p(a):3 p(b):4" {
		t.Error(got)
	}
	if got := telling(Fire(r, rowsOf(t, "q(a,1):3 q(b,1):4 t(b,1):-9"))); got != "p(a):3" {
		t.Error("with one more:", got)
	}
}

// TestStampsF3: what follows has no greater stamp than some row that it follows from, and follows from rows that last as long alone.
func TestStampsF3(t *testing.T) {
	d := &drawer{seed: 14}
	some := 0
	for range 6000 {
		r, l := d.rule(t, d.positive), d.rows(t, 16)
		got := Fire(r, l)
		for _, x := range got {
			some++
			lasting := only(l, func(y api.Row) bool { return y.Stamp >= x.Stamp })
			if stamp, ok := stampOf(x, Fire(r, lasting)); !ok || stamp != x.Stamp {
				t.Fatalf("%v of %s: %s, but not of %s", r, telling(l), telling(got), telling(lasting))
			}
			longer := only(l, func(y api.Row) bool { return y.Stamp > x.Stamp })
			if _, ok := stampOf(x, Fire(r, longer)); ok && len(atomsOf(r)) > 0 {
				t.Fatalf("%v of %s: %s, but it follows of %s", r, telling(l), telling(got), telling(longer))
			}
			if len(atomsOf(r)) == 0 && x.Stamp != api.Forever {
				t.Fatalf("%v: %s", r, telling(got))
			}
		}
	}
	if some < 1500 {
		t.Error("too few:", some)
	}
}

// TestStampsWithNotF3: of each atom's relation there is a row that lasts as long.
func TestStampsWithNotF3(t *testing.T) {
	d := &drawer{seed: 15}
	some := 0
	for range 6000 {
		r, l := d.rule(t, d.literal), d.rows(t, 16)
		got := Fire(r, l)
		for _, x := range got {
			some++
			for _, i := range atomsOf(r) {
				if !slices.ContainsFunc(l, func(y api.Row) bool { return y.Name == r.Body[i].Name && y.Stamp >= x.Stamp }) {
					t.Fatalf("%v of %s: %s", r, telling(l), telling(got))
				}
			}
		}
	}
	if some < 1500 {
		t.Error("too few:", some)
	}
}

// TestOtherRowsF3: rows of relations that the rule does not name change nothing.
func TestOtherRowsF3(t *testing.T) {
	d := &drawer{seed: 16}
	some := 0
	for range 6000 {
		r, l := d.rule(t, d.literal), d.rows(t, 16)
		named := func(x api.Row) bool {
			return slices.ContainsFunc(r.Body, func(y api.Literal) bool {
				return (y.Kind == api.LitAtom || y.Kind == api.LitNot) && y.Name == x.Name
			})
		}
		its := only(l, named)
		others := only(append(d.rows(t, 12), rowsOf(t, "p(a,1):9 qq(a,1):9 tq(a,1):9 uu(a):9 none(a,2):forever r(a,1):1 a(a,1):2 z():3")...), func(x api.Row) bool { return !named(x) })
		got := Fire(r, its)
		for _, all := range [][]api.Row{slices.Concat(its, others), slices.Concat(others, its), l} {
			if other := Fire(r, all); !sameRows(other, got) {
				t.Fatalf("%v of %s: %s; of %s: %s", r, telling(its), telling(got), telling(all), telling(other))
			}
		}
		some += min(1, len(got))
	}
	if some < 1000 {
		t.Error("too few:", some)
	}
}

// moved has the atoms of a body at one another's places, in another order as it comes.
func (d *drawer) moved(r api.Rule) api.Rule {
	at := atomsOf(r)
	r.Body = slices.Clone(r.Body)
	for i := range at {
		k := i + d.below(len(at)-i)
		r.Body[at[i]], r.Body[at[k]] = r.Body[at[k]], r.Body[at[i]]
	}
	return r
}

// bound tells whether chapter 6 has all variables bound where they must be, and none again.
func bound(r api.Rule) bool {
	p := api.Program{Rules: []api.Rule{r}, Decls: []api.Decl{{Name: r.Head, Arity: len(r.Args)}, {Name: "q", Arity: 2}, {Name: "t", Arity: 2}, {Name: "u", Arity: 2}}}
	e, _ := scope.Check(p)
	return e == api.OK
}

// TestAtomsChangePlacesF3: whatever stands between them, if all variables are bound where they must be, before and behind that.
func TestAtomsChangePlacesF3(t *testing.T) {
	d := &drawer{seed: 17}
	some, count := 0, 0
	for range 30000 {
		r := d.rule(t, d.literal)
		other := d.moved(r)
		if !bound(r) || !bound(other) || slices.EqualFunc(r.Body, other.Body, sameAtom) {
			continue
		}
		l := d.rows(t, 16)
		got := Fire(r, l)
		if again := Fire(other, l); !sameRows(got, again) {
			t.Fatalf("%v of %s: %s; %v: %s", r, telling(l), telling(got), other, telling(again))
		}
		count++
		some += min(1, len(got))
	}
	if count < 1000 || some < 300 {
		t.Error("too few:", count, some)
	}
}

func sameAtom(a, b api.Literal) bool {
	return a.Kind == b.Kind && a.Name == b.Name && slices.EqualFunc(a.Args, b.Args, func(x, y api.Term) bool { return x.Kind == y.Kind && x.Name == y.Name && same(x.Value, y.Value) })
}

// TestPlainAtomsChangePlacesF3: atoms of variables and values alone, in each order.
func TestPlainAtomsChangePlacesF3(t *testing.T) {
	l := rowsOf(t, "q(a,b):9 q(a,3):8 q(b,c):7 q(b,3):6 q(c,a):5 q(c,c):4 t(a,a,3):3 t(b,b,3):8 t(c,3,c):1 t(a,c,c):2")
	for _, atoms := range [][]string{
		{"q(@S,X)", "q(@X,Y)"}, {"q(@S,X)", "q(@S,3)"}, {"q(@S,S)", "q(@X,S)"}, {"q(@S,X)", "q(@X,Y)", "q(@Y,S)"}, {"q(@S,X)", "t(@S,X,Y)"}, {"t(@S,Y,Y)", "q(@S,Y)"}, {"t(@S,S,X)", "q(@S,X)", "q(@Y,X)"}, {"q(@S,X)", "none(@S)"}, {"t(@S,X,Y)", "q(@Z,X)", "q(@Z,Y)", "q(@S,Z)"},
	} {
		want := Fire(ruleOf(t, "p(@S) :- "+joined(atoms)), l)
		for _, other := range orders(atoms) {
			r := ruleOf(t, "p(@S) :- "+joined(other))
			if got := Fire(r, l); !sameRows(got, want) || !sameRows(got, firedRows(r, l)) {
				t.Errorf("%s: %s, not %s", other, telling(got), telling(want))
			}
		}
	}
	// What stands within an argument must be bound by then: F2 asks for that, in whatever order.
	if got := telling(Fire(ruleOf(t, "p(@S) :- q(@S,X), t(@S,S,X), q(@Y,X), t(@Y,Y,(X+0))"), l)); got != "p(a):3 p(b):6" {
		t.Error(got)
	}
	if got := telling(Fire(ruleOf(t, "p(@S) :- t(@Y,Y,(X+0)), q(@S,X), t(@S,S,X), q(@Y,X)"), l)); got != "" {
		t.Error("ahead of what binds it:", got)
	}
}

func joined(l []string) string {
	out := l[0]
	for _, s := range l[1:] {
		out += ", " + s
	}
	return out
}

// orders are all that a list may have.
func orders(l []string) [][]string {
	if len(l) < 2 {
		return [][]string{l}
	}
	var out [][]string
	for i, s := range l {
		for _, rest := range orders(slices.Delete(slices.Clone(l), i, i+1)) {
			out = append(out, append([]string{s}, rest...))
		}
	}
	return out
}
