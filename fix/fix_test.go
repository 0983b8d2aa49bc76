package fix

import (
	"slices"
	"strconv"
	"strings"
	"testing"

	"beaconry/api"
	"beaconry/locate"
)

// fixes asks for the same however rows and rules come, and for what K1 asks told another way.
func fixes(t *testing.T, p api.Program, base []api.Row, most int, want string, whole bool) {
	t.Helper()
	turned := p
	turned.Rules = slices.Clone(p.Rules)
	slices.Reverse(turned.Rules)
	other := slices.Concat(base, base)
	slices.Reverse(other)
	for way, got := range map[string]func() ([]api.Row, bool){
		"Fix":                 func() ([]api.Row, bool) { return Fix(p, base, most) },
		"told another way":    func() ([]api.Row, bool) { return fixed(p, base, most) },
		"rules turned about":  func() ([]api.Row, bool) { return Fix(turned, base, most) },
		"rows about, twice":   func() ([]api.Row, bool) { return Fix(p, other, most) },
		"base once more":      func() ([]api.Row, bool) { return Fix(p, base, most) },
		"all of it turned so": func() ([]api.Row, bool) { return Fix(turned, other, most) },
	} {
		if l, ok := got(); telling(l) != want || ok != whole {
			t.Errorf("%s, of %s, %d at most: %s, %t, not %s, %t", way, telling(base), most, telling(l), ok, want, whole)
		}
	}
}

// fixesWhole asks for what is whole, with as many rows as there are, and with more.
func fixesWhole(t *testing.T, rows, want string, rules ...string) {
	t.Helper()
	p, base, n := programOf(t, rules...), rowsOf(t, rows), len(strings.Fields(want))
	for _, most := range []int{n, n + 1, n + 100, api.MaxRows, 1<<63 - 1} {
		fixes(t, p, base, most, want, true)
	}
	if _, whole := Fix(p, base, n-1); whole != (n == 0) {
		t.Errorf("of %s, by %s: whole with one row less: %t", rows, rules, whole)
	}
}

// TestExample: chapter 12's own.
func TestExample(t *testing.T) {
	fixesWhole(t, "link(x,y,1):5 link(y,z,1):3", "link(x,y,1):5 link(y,z,1):3 p(x,y):5 p(x,z):3 p(y,z):3",
		"p(@S,D) :- link(@S,D,C)", "p(@S,E) :- link(@S,D,C), p(@D,E)")
}

// TestThreeNodes: the document's example, by the program `path` of chapter 21.
func TestThreeNodes(t *testing.T) {
	p := parsed(t, `materialize(link,3). materialize(path,4). materialize(best,3). materialize(route,3).
p1 path(@S,D,P,C) :- link(@S,D,C), P := f_cons(S,f_cons(D,[])).
p2 path(@S,D,P,C) :- link(@S,Z,X), path(@Z,D,Q,Y), f_member(Q,S) == 0, P := f_cons(S,Q), C := (X+Y).
p3 best(@S,D,min<C>) :- path(@S,D,P,C).
p4 route(@S,D,min<P>) :- best(@S,D,C), path(@S,D,P,C).`)
	base := rowsOf(t, "link(a,b,1):9 link(b,a,1):8 link(b,c,2):7 link(c,b,2):6")
	l, whole := Fix(p, base, 400)
	got := telling(l)
	for _, want := range []string{"best(a,c,3):7", "route(a,c,[a,b,c]):7", "path(a,c,[a,b,c],3):7", "route(c,a,[c,b,a]):6", "best(b,a,1):8"} {
		if !slices.Contains(strings.Fields(got), want) {
			t.Errorf("%s is not of %s", want, got)
		}
	}
	// Of both ways between each two nodes: links, paths, bests, routes.
	if !whole || len(l) != 4+6+6+6 {
		t.Error(len(l), whole)
	}
	want, _ := fixed(p, base, 400)
	if !sameRows(l, want) {
		t.Error(telling(want))
	}
}

func TestOneStratumK1(t *testing.T) {
	// Rules that do not reach their own head, several of one relation, and one that reads what another one makes.
	fixesWhole(t, "q(a,1):3 t(a,2):4 q(b,1):5", "p(a,1):3 p(b,1):5 q(a,1):3 q(b,1):5 t(a,2):4", "p(@S,X) :- q(@S,X)")
	fixesWhole(t, "q(a,1):3 t(a,2):4 t(a,1):9", "p(a,1):9 p(a,2):4 q(a,1):3 t(a,1):9 t(a,2):4", "p(@S,X) :- q(@S,X)", "p(@S,X) :- t(@S,X)")
	fixesWhole(t, "q(a,1):3 t(a,1):2", "p(a,1):3 q(a,1):3 r(a,1):2 s(a,1):2 t(a,1):2", "s(@S,X) :- r(@S,X)", "r(@S,X) :- p(@S,X), t(@S,X)", "p(@S,X) :- q(@S,X)")
	fixesWhole(t, "q(a,1):3", "q(a,1):3", "p(@S,X) :- q(@S,X), X > 1", "p(@S,X) :- t(@S,X)")
	// Rules that do: one, and two by way of one another.
	fixesWhole(t, "p(a,1):7", "p(a,1):7 p(a,2):7 p(a,3):7 p(a,4):7", "p(@S,Y) :- p(@S,X), X < 4, Y := (X+1)")
	fixesWhole(t, "p(a,1):7", "p(a,1):7 p(a,3):7 q(a,2):7 q(a,4):7", "p(@S,Y) :- q(@S,X), X < 4, Y := (X+1)", "q(@S,Y) :- p(@S,X), X < 4, Y := (X+1)")
	fixesWhole(t, "q(a,1):7", "q(a,1):7", "p(@S,X) :- p(@S,X)", "r(@S,X) :- s(@S,X)", "s(@S,X) :- r(@S,X)")
	fixesWhole(t, "p(a,b):4 p(b,c):6 p(c,a):5", "p(a,a):4 p(a,b):4 p(a,c):4 p(b,a):5 p(b,b):4 p(b,c):6 p(c,a):5 p(c,b):4 p(c,c):4", "p(@S,E) :- p(@S,D), p(@D,E)")
	// A rule that reads one relation twice.
	fixesWhole(t, "q(a,1):3 q(a,2):5", "p(a,2):3 p(a,3):3 p(a,4):5 q(a,1):3 q(a,2):5", "p(@S,Z) :- q(@S,X), q(@S,Y), Z := (X+Y)")
	// Rules without an atom.
	fixesWhole(t, "", "p(a,3):forever", "p(@a,X) :- X := 3")
	fixesWhole(t, "q(a,3):1", "p(a,3):forever q(a,3):1 r(a,3):1", "p(@a,X) :- X := 3", "r(@S,X) :- p(@S,X), q(@S,X)")
}

func TestStrataK1(t *testing.T) {
	fixesWhole(t, "q(a,1):3 q(a,2):4 t(a,1):9", "p(a,2):4 q(a,1):3 q(a,2):4 t(a,1):9", "p(@S,X) :- q(@S,X), !t(@S,X)")
	// What it asks not to be is made ahead, whole: over two rounds, and by the rule that stands behind.
	fixesWhole(t, "q(a,1):3 q(a,2):4 s(a,1):9", "p(a,2):4 q(a,1):3 q(a,2):4 r(a,1):9 s(a,1):9 t(a,1):9", "p(@S,X) :- q(@S,X), !t(@S,X)", "t(@S,X) :- r(@S,X)", "r(@S,X) :- s(@S,X)")
	fixesWhole(t, "q(a,1):3 q(a,2):5 q(b,7):4", "p(a,1):5 p(b,7):4 q(a,1):3 q(a,2):5 q(b,7):4 r(a,2):5 r(b,1):4 s(a,2):5 s(b,7):4", "p(@S,min<X>) :- q(@S,X)", "r(@S,count<X>) :- q(@S,X)", "s(@S,max<X>) :- q(@S,X)")
	// Three strata: of r the count, and then what no count is.
	fixesWhole(t, "q(a,1):3 q(a,2):5 s(a,2):4 s(a,7):6", "p(a,7):6 q(a,1):3 q(a,2):5 r(a,1):3 r(a,2):5 s(a,2):4 s(a,7):6 t(a,2):5", "p(@S,X) :- s(@S,X), !t(@S,X)", "t(@S,count<X>) :- r(@S,X)", "r(@S,X) :- q(@S,X)")
	// A later stratum's rules reach their own head, and go on round by round, with LitNots and aggregates beneath.
	fixesWhole(t, "q(a,1):8 t(a,3):9", "p(a,1):8 p(a,2):8 q(a,1):8 t(a,3):9", "p(@S,X) :- q(@S,X)", "p(@S,Y) :- p(@S,X), X < 9, Y := (X+1), !t(@S,Y)")
	fixesWhole(t, "q(a,1):8 q(a,3):2", "p(a,3):8 p(a,4):8 p(a,5):8 q(a,1):8 q(a,3):2 r(a,3):8 s(a,5):8", "r(@S,max<X>) :- q(@S,X)", "p(@S,X) :- r(@S,X)", "p(@S,Y) :- p(@S,X), X < 5, Y := (X+1)", "s(@S,max<X>) :- p(@S,X)")
	// One relation by a rule with an aggregate and by rules without.
	fixesWhole(t, "q(a,1):8 q(a,3):2 t(a,7):4", "p(a,2):8 p(a,7):4 q(a,1):8 q(a,3):2 t(a,7):4", "p(@S,count<X>) :- q(@S,X)", "p(@S,X) :- t(@S,X)")
	// What a LitNot asks not to be may be in base, whatever its stamp is; and of the head's relation there may be rows.
	fixesWhole(t, "q(a,1):3 q(a,2):4 t(a,1):-9 p(a,1):-1", "p(a,1):-1 p(a,2):4 q(a,1):3 q(a,2):4 t(a,1):-9", "p(@S,X) :- q(@S,X), !t(@S,X)")
	// An aggregate of nothing.
	fixesWhole(t, "t(a,1):3", "t(a,1):3", "p(@S,count<X>) :- q(@S,X)")
}

// TestManyStrataK1: as many as there may be: each but the first one asks for its neighbour not to be.
func TestManyStrataK1(t *testing.T) {
	s := ""
	for i := range api.MaxRules {
		s += "materialize(n" + strconv.Itoa(i) + ",2). "
		if i > 0 {
			s += "r n" + strconv.Itoa(i) + "(@S,X) :- n0(@S,X), !n" + strconv.Itoa(i-1) + "(@S,X).\n"
		}
	}
	p := parsed(t, s)
	var names []string
	l, whole := Fix(p, rowsOf(t, "n0(a,1):3"), 400)
	for _, r := range l {
		names = append(names, r.Name)
	}
	var want []string
	for i := 0; i < api.MaxRules; i += 2 {
		want = append(want, "n"+strconv.Itoa(i))
	}
	if slices.Sort(want); !whole || !slices.Equal(names, want) {
		t.Error(names, whole)
	}
	if l, whole := Fix(p, rowsOf(t, "n0(a,1):3"), len(want)-1); whole || len(l) != len(want)-1 {
		t.Error("one less than there are in the last stratum:", len(l), whole)
	}
}

// TestManyRoundsK1: each one makes one row.
func TestManyRoundsK1(t *testing.T) {
	p := programOf(t, "p(@S,Y) :- p(@S,X), X < 300, Y := (X+1)", "q(@S,count<X>) :- p(@S,X)")
	base := rowsOf(t, "p(a,1):4")
	l, whole := Fix(p, base, 301)
	if !whole || len(l) != 301 || telling(l[299:]) != "p(a,300):4 q(a,300):4" {
		t.Error(len(l), whole)
	}
	for _, most := range []int{0, 1, 2, 150, 299, 300} {
		if l, whole := Fix(p, base, most); whole || len(l) != most || most > 0 && telling(l[most-1:]) != "p(a,"+strconv.Itoa(most)+"):4" {
			t.Error(most, len(l), whole)
		}
	}
	// Without an end there is just an end to rows.
	p = programOf(t, "p(@S,Y) :- p(@S,X), Y := (X+1)")
	if l, whole := Fix(p, base, 250); whole || len(l) != 250 {
		t.Error(len(l), whole)
	}
}

// TestNothingK1: no rules, no rows, no program.
func TestNothingK1(t *testing.T) {
	fixesWhole(t, "", "")
	fixesWhole(t, "", "", "p(@S,X) :- q(@S,X)", "p(@S,X) :- p(@S,X)", "r(@S,X) :- p(@S,X), !q(@S,X)")
	fixesWhole(t, "q(b,1):3 q(a,1):5 p(c,[]):forever q(b,1):9 none(7):-2 none():0", "none():0 none(7):-2 p(c,[]):forever q(a,1):5 q(b,1):9")
	for _, p := range []api.Program{{}, parsed(t, ""), parsed(t, "materialize(q,2)."), {Decls: []api.Decl{}, Rules: []api.Rule{}}} {
		for _, most := range []int{-1 << 63, -1, 0, 1} {
			for _, base := range [][]api.Row{nil, {}, rowsOf(t, "q(a,1):3")[:0]} {
				if l, whole := Fix(p, base, most); len(l) > 0 || !whole {
					t.Error(p, most, telling(l), whole)
				}
			}
		}
		base := rowsOf(t, "q(a,1):3 p(a,1):4 q(a,1):5")
		fixes(t, p, base, 2, "p(a,1):4 q(a,1):5", true)
		fixes(t, p, base, 1, "p(a,1):4", false)
		fixes(t, p, base, 0, "", false)
		fixes(t, p, base, -7, "", false)
		fixes(t, p, base[:1], 1, "q(a,1):3", true)
	}
}

// TestMostK1: how far one comes is seen in what comes out, since what is made later stands ahead.
func TestMostK1(t *testing.T) {
	p := programOf(t, "s(@S,X) :- t(@S,X)", "r(@S,X) :- s(@S,X)", "p(@S,X) :- r(@S,X), !o(@S)")
	base := rowsOf(t, "t(b,1):2 t(a,1):3 t(a,1):1")
	const rows = "p(a,1):3 p(b,1):2 r(a,1):3 r(b,1):2 s(a,1):3 s(b,1):2 t(a,1):3 t(b,1):2"
	for most, want := range map[int]string{
		// At first.
		-1 << 63: "", -2: "", -1: "", 0: "", 1: "t(a,1):3",
		// Behind the first round of a stratum.
		2: "s(a,1):3 s(b,1):2", 3: "s(a,1):3 s(b,1):2 t(a,1):3",
		// Behind a later one.
		4: "r(a,1):3 r(b,1):2 s(a,1):3 s(b,1):2", 5: "r(a,1):3 r(b,1):2 s(a,1):3 s(b,1):2 t(a,1):3",
		// In a later stratum.
		6: "p(a,1):3 p(b,1):2 r(a,1):3 r(b,1):2 s(a,1):3 s(b,1):2", 7: "p(a,1):3 p(b,1):2 r(a,1):3 r(b,1):2 s(a,1):3 s(b,1):2 t(a,1):3",
	} {
		fixes(t, p, base, most, want, false)
	}
	for _, most := range []int{8, 9, 10, 400, 1<<63 - 1} {
		fixes(t, p, base, most, rows, true)
	}
}

// TestBehindARoundK1: all rules of a round are gone through, however many rows come.
func TestBehindARoundK1(t *testing.T) {
	p := programOf(t, "s(@S,Z) :- t(@S,X), t(@S,Y), Z := ((X*10)+Y)", "r(@S,X) :- t(@S,X)", "p(@S,X) :- t(@S,X), X == 3")
	base := rowsOf(t, "t(a,3):1 t(a,2):2 t(a,1):3")
	fixes(t, p, base, 2, "t(a,1):3 t(a,2):2", false)
	fixes(t, p, base, 3, "p(a,3):1 r(a,1):3 r(a,2):2", false)
	fixes(t, p, base, 6, "p(a,3):1 r(a,1):3 r(a,2):2 r(a,3):1 s(a,11):3 s(a,12):2", false)
	fixes(t, p, base, 15, "p(a,3):1 r(a,1):3 r(a,2):2 r(a,3):1 s(a,11):3 s(a,12):2 s(a,13):1 s(a,21):2 s(a,22):2 s(a,23):1 s(a,31):1 s(a,32):1 s(a,33):1 t(a,1):3 t(a,2):2", false)
	if l, whole := Fix(p, base, 16); !whole || len(l) != 16 {
		t.Error(telling(l), whole)
	}
}

// TestRoundsBeginningK1: rules read the rows of the round's beginning alone, in whatever order they stand.
func TestRoundsBeginningK1(t *testing.T) {
	rules := []string{"q(@S,X) :- t(@S,X)", "p(@S,X) :- q(@S,X)", "o(@S) :- p(@S,X)", "link(@S,X,X) :- o(@S), t(@S,X)"}
	base := rowsOf(t, "t(a,1):3")
	for _, at := range [][]int{{0, 1, 2, 3}, {3, 2, 1, 0}, {2, 0, 3, 1}, {1, 0, 2, 3}} {
		p := programOf(t, rules[at[0]], rules[at[1]], rules[at[2]], rules[at[3]])
		fixes(t, p, base, 1, "q(a,1):3", false)
		fixes(t, p, base, 2, "p(a,1):3 q(a,1):3", false)
		fixes(t, p, base, 3, "o(a):3 p(a,1):3 q(a,1):3", false)
		fixes(t, p, base, 4, "link(a,1,1):3 o(a):3 p(a,1):3 q(a,1):3", false)
		fixes(t, p, base, 5, "link(a,1,1):3 o(a):3 p(a,1):3 q(a,1):3 t(a,1):3", true)
	}
}

// TestStampsAloneK1: rounds that change stamps alone are gone on from.
func TestStampsAloneK1(t *testing.T) {
	rows := "link(a,1,2):9 link(a,2,3):8 link(a,3,4):7 p(a,1):6 p(a,2):-5 p(a,3):1 p(a,4):-7"
	raised := "link(a,1,2):9 link(a,2,3):8 link(a,3,4):7 p(a,1):6 p(a,2):6 p(a,3):6 p(a,4):6"
	const step = "p(@S,Y) :- p(@S,X), link(@S,X,Y)"
	fixesWhole(t, rows, raised, step)
	// Where there are just as many as may be.
	fixes(t, programOf(t, step), rowsOf(t, rows), 7, raised, true)
	fixes(t, programOf(t, step), rowsOf(t, rows), 6, "link(a,1,2):9 link(a,2,3):8 link(a,3,4):7 p(a,1):6 p(a,2):-5 p(a,3):1", false)
	// In a stratum behind, they are seen as the one ahead left them; and stamps alone change in that, too.
	fixesWhole(t, rows+" r(a,4):0", raised+" r(a,1):6 r(a,4):6", step, "r(@S,min<X>) :- p(@S,X)", "r(@S,max<X>) :- p(@S,X)")
	fixesWhole(t, rows+" r(a,4):0 s(a,4):-1", raised+" r(a,4):6 s(a,4):6", step, "r(@S,max<X>) :- p(@S,X), !t(@S,X)", "s(@S,X) :- r(@S,X)")
	// A way that is found later lasts longer.
	fixesWhole(t, "link(a,d,1):1 link(a,b,1):9 link(b,c,1):8 link(c,d,1):7 link(x,a,1):6",
		"link(a,b,1):9 link(a,d,1):1 link(b,c,1):8 link(c,d,1):7 link(x,a,1):6 p(a,b):9 p(a,c):8 p(a,d):7 p(b,c):8 p(b,d):7 p(c,d):7 p(x,a):6 p(x,b):6 p(x,c):6 p(x,d):6",
		"p(@S,D) :- link(@S,D,C)", "p(@S,E) :- link(@S,D,C), p(@D,E)")
}

func TestStampsK1(t *testing.T) {
	// The same rows with unlike stamps.
	fixesWhole(t, "q(a,1):3 q(a,1):8 q(a,1):5", "p(a,1):8 q(a,1):8", "p(@S,X) :- q(@S,X)")
	fixesWhole(t, "q(a,1):-3 p(a,1):-8 q(a,1):-5", "p(a,1):-3 q(a,1):-3", "p(@S,X) :- q(@S,X)")
	fixesWhole(t, "q(a,1):3 p(a,1):8", "p(a,1):8 q(a,1):3", "p(@S,X) :- q(@S,X)")
	// Below 0, Forever, and beyond.
	fixesWhole(t, "q(a,1):-3 t(a,1):forever", "p(a,1):-3 q(a,1):-3 r(a,1):forever t(a,1):forever", "p(@S,X) :- q(@S,X), t(@S,X)", "r(@S,X) :- t(@S,X)")
	fixesWhole(t, "q(a,1):1099511627777 r(a,1):9223372036854775807 r(a,2):-9223372036854775808", "p(a,1):forever q(a,1):1099511627777 r(a,1):9223372036854775807 r(a,2):-9223372036854775808 s(a,2):-9223372036854775808", "p(@S,X) :- q(@S,X)", "s(@S,X) :- r(@S,X), X == 2")
	fixesWhole(t, "p(a,1):0", "p(a,1):forever q(a,1):forever", "p(@a,X) :- X := 1", "q(@S,X) :- p(@S,X)")
	fixesWhole(t, "p(a,1):-4", "p(a,1):-4 q(a,1):-4 r(a,1):-4", "q(@S,count<X>) :- p(@S,X)", "r(@S,X) :- q(@S,X), !t(@S,X)")
}

// TestFactsK1: facts of p that base does not have count for nothing.
func TestFactsK1(t *testing.T) {
	p := parsed(t, declared+"q(@a,1). q(@b,2). p(@a,7). r p(@S,X) :- q(@S,X).")
	fixes(t, p, nil, 9, "", true)
	fixes(t, p, rowsOf(t, "q(a,1):4"), 9, "p(a,1):4 q(a,1):4", true)
	fixes(t, p, rowsOf(t, "q(c,3):4"), 2, "p(c,3):4 q(c,3):4", true)
	fixes(t, p, Base(p, 5), 9, "p(a,1):5 p(a,7):5 p(b,2):5 q(a,1):5 q(b,2):5", true)
}

// TestRowsOfNoRelationK1: rows stay that are of no relation of p, or have other arguments than that has.
func TestRowsOfNoRelationK1(t *testing.T) {
	fixesWhole(t, "none(a,1):3 q():1 q(a):2 q(a,1,2):3 q(a,1):4 zz():5", "none(a,1):3 p(a,1):4 q():1 q(a):2 q(a,1):4 q(a,1,2):3 zz():5", "p(@S,X) :- q(@S,X)", "r(@S,X) :- s(@S,X)")
	names := []string{"", "\x00", "A", "p", "q", "\xff"}
	var l []api.Row
	for i, name := range names {
		l = append(l, api.Row{Name: name, Args: valuesOf(t, "a,1"), Stamp: i})
	}
	slices.Reverse(l)
	got, whole := Fix(programOf(t, "p(@S,X) :- q(@S,X)"), l, 6)
	for i, r := range got {
		stamp := i
		if r.Name == "p" {
			stamp = i + 1 // that of q, which it follows from
		}
		if r.Name != names[i] || r.Stamp != stamp {
			t.Error(r, "is not", names[i], stamp)
		}
	}
	if !whole || len(got) != len(names) {
		t.Error(len(got), whole)
	}
}

// unlayered are programs whose Strata is an error.
func unlayered(t *testing.T) map[string]api.Program {
	t.Helper()
	out := map[string]api.Program{
		"no relations":   parsed(t, "r p(@S,X) :- q(@S,X)."),
		"one twice":      parsed(t, "materialize(q,2). materialize(q,2)."),
		"other arity":    programOf(t, "p(@S) :- q(@S,X)"),
		"a fact of none": parsed(t, "materialize(q,2). p(@a,1)."),
		"not bound":      programOf(t, "p(@S,Y) :- q(@S,X)"),
		"set again":      programOf(t, "p(@S,X) :- q(@S,X), X := 1"),
		"not itself":     programOf(t, "q(@S,X) :- t(@S,X)", "p(@S,X) :- q(@S,X), !p(@S,X)"),
		"count itself":   programOf(t, "p(@S,count<X>) :- p(@S,X)"),
		"over others":    programOf(t, "p(@S,X) :- q(@S,X), !r(@S,X)", "r(@S,X) :- s(@S,X)", "s(@S,X) :- p(@S,X)"),
		"an empty rule":  {Rules: []api.Rule{{}}},
		"no such arity":  {Decls: []api.Decl{{Name: "q", Arity: 9}}},
		"no such name":   {Decls: []api.Decl{{Name: "Q", Arity: 2}}},
		"too many":       {Decls: slices.Repeat([]api.Decl{{Name: "q", Arity: 2}}, api.MaxRules+1)},
	}
	wrong := programOf(t, "p(@S,X) :- q(@S,X)")
	wrong.Rules[0].Body[0].Kind = 9
	out["no such kind"] = wrong
	return out
}

func TestNoStrataK1(t *testing.T) {
	base := rowsOf(t, "q(a,1):3 t(b,1):4")
	for name, p := range unlayered(t) {
		for _, most := range []int{-1, 0, 1, 2, 400} {
			for _, l := range [][]api.Row{nil, base, base[:1]} {
				if got, whole := Fix(p, l, most); len(got) > 0 || whole {
					t.Error(name, telling(got), whole)
				}
				for _, place := range []string{"a", "b", "c", ""} {
					if here, others, whole := At(p, l, place, most); len(here) > 0 || len(others) > 0 || whole {
						t.Error(name, place, telling(here), telling(others), whole)
					}
				}
			}
		}
	}
}

// TestNoPlacesK1: rules that have no place (chapter 7) are gone through as others are.
func TestNoPlacesK1(t *testing.T) {
	for rule, want := range map[string]string{
		"p(@S,D) :- q(@S,X), q(@D,X), S != D":      "link(a,b,1):5 p(a,b):3 p(b,a):3 q(a,1):3 q(b,1):4",
		"link(@D,S,C) :- link(@S,D,C)":             "link(a,b,1):5 link(b,a,1):5 q(a,1):3 q(b,1):4",
		"p(@X,S) :- q(@S,X)":                       "link(a,b,1):5 p(1,a):3 p(1,b):4 q(a,1):3 q(b,1):4",
		"p(@c,X) :- q(@S,X)":                       "link(a,b,1):5 p(c,1):4 q(a,1):3 q(b,1):4",
		"p(@S,X) :- q(@a,X), q(@S,X)":              "link(a,b,1):5 p(a,1):3 p(b,1):3 q(a,1):3 q(b,1):4",
		"p(@D,count<C>) :- link(@S,D,C), q(@D,C)":  "link(a,b,1):5 p(b,1):4 q(a,1):3 q(b,1):4",
		"p(@Z,X) :- q(@S,X), link(@S,D,C), Z := D": "link(a,b,1):5 p(b,1):3 q(a,1):3 q(b,1):4",
	} {
		if e, _ := locate.Check(programOf(t, rule)); e != api.ErrPlace {
			t.Error(rule, e)
		}
		fixesWhole(t, "q(a,1):3 q(b,1):4 link(a,b,1):5", want, rule)
	}
}

// TestDrawnK1 holds Fix against K1 told another way, for drawn programs and rows, whatever most is.
func TestDrawnK1(t *testing.T) {
	d := &drawer{seed: 41}
	whole, over, none, grown := 0, 0, 0, 0
	for range 2500 {
		p, base := d.program(t, anyKind), d.rows(t, 14)
		all, _ := fixed(p, base, 60)
		for _, most := range []int{60, len(all), len(all) - 1, d.below(60), d.below(len(all)+2) - 1} {
			got, ok := Fix(p, base, most)
			want, is := fixed(p, base, most)
			if !sameRows(got, want) || ok != is {
				t.Fatalf("%v of %s, %d at most: %s, %t, not %s, %t", p.Rules, telling(base), most, telling(got), ok, telling(want), is)
			}
			switch {
			case ok:
				whole++
			case len(got) > 0:
				over++
			default:
				none++
			}
			if ok && len(got) > len(worldOf(base)) {
				grown++
			}
		}
	}
	if whole < 2500 || over < 2500 || none < 500 || grown < 2000 {
		t.Error("too few:", whole, over, none, grown)
	}
}

// TestOrderOfBaseK1: it counts for nothing, nor does what stands there twice.
func TestOrderOfBaseK1(t *testing.T) {
	d := &drawer{seed: 42}
	for range 1500 {
		p, base, most := d.program(t, anyKind), d.rows(t, 14), d.below(40)
		got, ok := Fix(p, base, most)
		other := d.shuffled(slices.Concat(base, base[:d.below(len(base)+1)]))
		again, is := Fix(p, other, most)
		if !sameRows(got, again) || ok != is {
			t.Fatalf("%v of %s: %s, %t; of %s: %s, %t", p.Rules, telling(base), telling(got), ok, telling(other), telling(again), is)
		}
	}
}

func TestBaseK1(t *testing.T) {
	p := parsed(t, declared+`q(@b,1). q(@a,2). p(@a,[1,[b]]). q(@b,1). o(@c). q(@a,"x"). q(@b,1). link(@a,b,-4). r p(@S,X) :- q(@S,X).`)
	for _, stamp := range []int{0, 7, -7, api.Forever, -1 << 63, 1<<63 - 1} {
		n := ":" + strings.Replace(strconv.Itoa(stamp), strconv.Itoa(api.Forever), "forever", 1)
		want := "link(a,b,-4)" + n + " o(c)" + n + " p(a,[1,[b]])" + n + " q(a,2)" + n + ` q(a,"x")` + n + " q(b,1)" + n
		if got := telling(Base(p, stamp)); got != want {
			t.Errorf("%s, not %s", got, want)
		}
	}
	for _, none := range []api.Program{{}, parsed(t, declared), programOf(t, "p(@S,X) :- q(@S,X)"), programOf(t, "p(@a,X) :- X := 1")} {
		if got := Base(none, 3); len(got) > 0 {
			t.Error(telling(got))
		}
	}
}

// TestBaseOfAnyK1: whatever else is wrong of a program, and of its facts.
func TestBaseOfAnyK1(t *testing.T) {
	for name, p := range unlayered(t) {
		p.Facts = []api.Tuple{{Name: "q", Args: valuesOf(t, "b,1")}, {Name: "p", Args: valuesOf(t, "1")}, {Name: "q", Args: valuesOf(t, "b,1")}, {Name: "P"}, {}}
		if got := telling(Base(p, 2)); got != "():2 P():2 p(1):2 q(b,1):2" {
			t.Error(name, got)
		}
	}
}
