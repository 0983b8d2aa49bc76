package fix

import (
	"slices"
	"strings"
	"testing"

	"beaconry/api"
)

// ats asks for the same however rows and rules come, and for what K2 asks told another way; want is here and others, parted by a bar.
func ats(t *testing.T, p api.Program, base []api.Row, place string, most int, want string, whole bool) {
	t.Helper()
	turned := p
	turned.Rules = slices.Clone(p.Rules)
	slices.Reverse(turned.Rules)
	other := slices.Concat(base, base)
	slices.Reverse(other)
	for way, got := range map[string]func() ([]api.Row, []api.Row, bool){
		"At":                 func() ([]api.Row, []api.Row, bool) { return At(p, base, place, most) },
		"told another way":   func() ([]api.Row, []api.Row, bool) { return fixedAt(p, base, place, most) },
		"rules turned about": func() ([]api.Row, []api.Row, bool) { return At(turned, base, place, most) },
		"rows about, twice":  func() ([]api.Row, []api.Row, bool) { return At(p, other, place, most) },
	} {
		here, others, ok := got()
		if l := strings.TrimSpace(telling(here) + " | " + telling(others)); l != want || ok != whole {
			t.Errorf("%s, of %s at %q, %d at most: %s, %t, not %s, %t", way, telling(base), place, most, l, ok, want, whole)
		}
	}
}

// atsWhole asks for what is whole at the place a, with as many rows as there are, and with more.
func atsWhole(t *testing.T, rows, want string, rules ...string) {
	t.Helper()
	p, base, n := programOf(t, rules...), rowsOf(t, rows), len(strings.Fields(want))-1
	for _, most := range []int{n, n + 1, api.MaxRows, 1<<63 - 1} {
		ats(t, p, base, "a", most, want, true)
	}
	if _, others, whole := At(p, base, "a", n-1); whole != (n == 0) || !whole && len(others) > 0 {
		t.Errorf("of %s, by %s, with one row less: %s, %t", rows, rules, telling(others), whole)
	}
}

// TestPartedK2: rows at the place, at others, with a first argument that is no address, and without any.
func TestPartedK2(t *testing.T) {
	atsWhole(t, "", "|")
	atsWhole(t, "q(a,1):3", "q(a,1):3 |")
	atsWhole(t, "q(b,1):3", "| q(b,1):3")
	atsWhole(t, `q(b,a):1 q(a,b):2 q(1,a):3 q("a",a):4 q([a],a):5 q([],a):6 q():7 q(a):8 q(b):9 q(aa,a):10 q(a,1,2,3):11 none(a):12 none():13 q(a,b):14`,
		`none(a):12 q(a):8 q(a,1,2,3):11 q(a,b):14 | none():13 q():7 q(1,a):3 q("a",a):4 q(aa,a):10 q(b):9 q(b,a):1 q([],a):6 q([a],a):5`)
}

// TestReadsHereK2: rows at other places are read by no rule.
func TestReadsHereK2(t *testing.T) {
	atsWhole(t, "q(a,1):3 q(b,2):4 q(1,3):5", "p(a,1):3 q(a,1):3 | q(1,3):5 q(b,2):4", "p(@S,X) :- q(@S,X)")
	atsWhole(t, "q(b,2):4", "| q(b,2):4", "p(@S,X) :- q(@S,X)")
	atsWhole(t, "link(a,b,1):3 q(b,2):4", "link(a,b,1):3 | q(b,2):4", "p(@S,X) :- link(@S,D,C), q(@D,X)")
	atsWhole(t, "link(a,a,1):3 q(a,2):4", "link(a,a,1):3 p(a,2):3 q(a,2):4 |", "p(@S,X) :- link(@S,D,C), q(@D,X)")
	atsWhole(t, "q(a,1):3 q(b,1):4", "q(a,1):3 | q(b,1):4", "p(@S,X) :- q(@b,X), q(@S,X)")
	// A LitNot, and an aggregate, do not see them, either.
	atsWhole(t, "q(a,1):3 t(b,1):4 t(b,2):4", "p(a,1):3 q(a,1):3 | t(b,1):4 t(b,2):4", "p(@S,X) :- q(@S,X), !t(@b,X)")
	atsWhole(t, "q(a,1):3 q(b,2):4 q(a,7):2", "p(a,2):3 q(a,1):3 q(a,7):2 | q(b,2):4", "p(@S,count<X>) :- q(@S,X)")
	atsWhole(t, "q(b,1):3 q(b,2):4", "| q(b,1):3 q(b,2):4", "p(@S,max<X>) :- q(@S,X)")
	// What is made at other places is read by none, too, nor is it if its first argument is no address.
	atsWhole(t, "q(a,b):3", "q(a,b):3 | p(b,a):3", "p(@X,S) :- q(@S,X)", "r(@S,X) :- p(@S,X)", "s(@a,1) :- p(@b,X)")
	atsWhole(t, `q(a,1):3 q(a,"a"):2 q(a,[a]):1`, `q(a,1):3 q(a,"a"):2 q(a,[a]):1 | p(1,a):3 p("a",a):2 p([a],a):1`, "p(@X,S) :- q(@S,X)", "r(@S,X) :- p(@S,X)")
}

// TestIntoBothK2: rules whose rows go into here, into others, and into both.
func TestIntoBothK2(t *testing.T) {
	atsWhole(t, "q(a,a):3 q(a,b):4 q(a,7):5", "p(a,a):3 q(a,7):5 q(a,a):3 q(a,b):4 | p(7,a):5 p(b,a):4", "p(@X,S) :- q(@S,X)")
	atsWhole(t, "q(a,b):4 q(a,c):2", "q(a,b):4 q(a,c):2 | r(b,b):4 r(b,c):2", "r(@b,X) :- q(@S,X)")
	atsWhole(t, "q(a,b):4 q(a,c):2", "q(a,b):4 q(a,c):2 r(a,b):4 r(a,c):2 |", "r(@a,X) :- q(@S,X)")
	// Into others out of what a later round makes here, and again into those of base.
	atsWhole(t, "q(a,b):4 s(b,a):1 s(c,a):1", "p(a,b):4 q(a,b):4 r(a,b):4 | s(b,a):4 s(c,a):1", "s(@X,S) :- r(@S,X)", "r(@S,X) :- p(@S,X)", "p(@S,X) :- q(@S,X)")
	// Stratum by stratum.
	atsWhole(t, "q(a,b):4 q(a,c):2 t(a,c):3", "q(a,b):4 q(a,c):2 r(a,b):4 t(a,c):3 | p(b,a):4 s(b,1):4", "r(@S,X) :- q(@S,X), !t(@S,X)", "p(@X,S) :- r(@S,X)", "s(@b,count<X>) :- r(@S,X)")
	// Without an atom.
	atsWhole(t, "", "p(a,1):forever | p(b,2):forever", "p(@a,X) :- X := 1", "p(@b,X) :- X := 2", "r(@S,X) :- p(@S,X), S == b")
}

// TestStampsK2: rounds that change stamps alone, here and at others.
func TestStampsK2(t *testing.T) {
	atsWhole(t, "link(a,1,2):9 link(a,2,3):8 p(a,1):6 p(a,2):-5 p(a,3):1", "link(a,1,2):9 link(a,2,3):8 p(a,1):6 p(a,2):6 p(a,3):6 |", "p(@S,Y) :- p(@S,X), link(@S,X,Y)")
	atsWhole(t, "link(a,1,2):9 link(a,2,3):8 p(a,1):6 p(a,2):-5 p(a,3):1 q(b,3):-3", "link(a,1,2):9 link(a,2,3):8 p(a,1):6 p(a,2):6 p(a,3):6 | q(b,1):6 q(b,2):6 q(b,3):6", "p(@S,Y) :- p(@S,X), link(@S,X,Y)", "q(@b,X) :- p(@S,X)")
	atsWhole(t, "q(a,b):4 q(a,c):forever p(b,a):3 p(c,a):-2 p(a,a):-1 q(a,a):0", "p(a,a):0 q(a,a):0 q(a,b):4 q(a,c):forever | p(b,a):4 p(c,a):forever", "p(@X,S) :- q(@S,X)")
	atsWhole(t, "q(b,1):2 q(b,1):7 q(a,1):-9 q(a,1):-3", "q(a,1):-3 | q(b,1):7")
}

// TestMostK2: both together are not more, and what comes out tells how far one came.
func TestMostK2(t *testing.T) {
	p := programOf(t, "s(@S,X) :- t(@S,X)", "r(@X,S) :- s(@S,X)", "p(@S,X) :- s(@S,X), !o(@S)")
	base := rowsOf(t, "t(a,b):3 t(a,c):2 t(b,c):9 t(a,c):1")
	for most, want := range map[int]string{
		-1 << 63: "", -1: "", 0: "", 1: "t(a,b):3", 2: "t(a,b):3 t(a,c):2",
		// Behind the first round of the first stratum: two more here; then two more at others.
		3: "s(a,b):3 s(a,c):2 t(a,b):3", 4: "s(a,b):3 s(a,c):2 t(a,b):3 t(a,c):2", 5: "s(a,b):3 s(a,c):2 t(a,b):3 t(a,c):2", 6: "s(a,b):3 s(a,c):2 t(a,b):3 t(a,c):2",
		// In the second one.
		7: "p(a,b):3 p(a,c):2 s(a,b):3 s(a,c):2 t(a,b):3 t(a,c):2", 8: "p(a,b):3 p(a,c):2 s(a,b):3 s(a,c):2 t(a,b):3 t(a,c):2",
	} {
		ats(t, p, base, "a", most, strings.TrimSpace(want+" |"), false)
	}
	for _, most := range []int{9, 10, 400, 1<<63 - 1} {
		ats(t, p, base, "a", most, "p(a,b):3 p(a,c):2 s(a,b):3 s(a,c):2 t(a,b):3 t(a,c):2 | r(b,a):3 r(c,a):2 t(b,c):9", true)
	}
}

// TestTooManyK2: in here alone, in others alone, and in both together, at first and behind a round.
func TestTooManyK2(t *testing.T) {
	none := programOf(t)
	for _, most := range []int{-3, 0, 1, 2} {
		ats(t, none, rowsOf(t, "q(a,1):1 q(a,2):2 q(a,3):3"), "a", most, strings.TrimSpace([]string{"", "q(a,1):1", "q(a,1):1 q(a,2):2"}[max(most, 0)]+" |"), false)
		ats(t, none, rowsOf(t, "q(b,1):1 q(1,2):2 q():3"), "a", most, "|", false)
		ats(t, none, rowsOf(t, "q(b,1):1 q(a,1):2 p(b,2):3"), "a", most, strings.TrimSpace([]string{"", "q(a,1):2", "q(a,1):2"}[max(most, 0)]+" |"), false)
	}
	ats(t, none, rowsOf(t, "q(a,1):1 q(b,1):2 q():3"), "a", 3, "q(a,1):1 | q():3 q(b,1):2", true)
	// Behind a round.
	away := programOf(t, "p(@X,S) :- q(@S,X)")
	three := rowsOf(t, "q(a,b):1 q(a,c):2 q(a,7):3")
	for _, most := range []int{3, 4, 5} {
		ats(t, away, three, "a", most, "q(a,7):3 q(a,b):1 q(a,c):2 |", false)
	}
	ats(t, away, three, "a", 6, "q(a,7):3 q(a,b):1 q(a,c):2 | p(7,a):3 p(b,a):1 p(c,a):2", true)
	stay := programOf(t, "p(@S,X) :- q(@S,X)")
	ats(t, stay, three, "a", 5, "p(a,7):3 p(a,b):1 p(a,c):2 q(a,7):3 q(a,b):1 |", false)
	ats(t, stay, three, "b", 3, "| q(a,7):3 q(a,b):1 q(a,c):2", true)
	ats(t, stay, three, "b", 2, "|", false)
	// One less than both together, where here is as many as may be, or fewer.
	both := programOf(t, "p(@S,X) :- q(@S,X)", "r(@X,S) :- q(@S,X)")
	ats(t, both, three, "a", 8, "p(a,7):3 p(a,b):1 p(a,c):2 q(a,7):3 q(a,b):1 q(a,c):2 |", false)
	ats(t, both, three, "a", 6, "p(a,7):3 p(a,b):1 p(a,c):2 q(a,7):3 q(a,b):1 q(a,c):2 |", false)
	ats(t, both, three, "a", 9, "p(a,7):3 p(a,b):1 p(a,c):2 q(a,7):3 q(a,b):1 q(a,c):2 | r(7,a):3 r(b,a):1 r(c,a):2", true)
}

// TestRoundsBeginningK2: rules read the rows here of the round's beginning alone.
func TestRoundsBeginningK2(t *testing.T) {
	rules := []string{"q(@S,X) :- t(@S,X)", "p(@S,X) :- q(@S,X)", "o(@X) :- q(@S,X)"}
	base := rowsOf(t, "t(a,b):3")
	for _, at := range [][]int{{0, 1, 2}, {2, 1, 0}, {1, 0, 2}, {2, 0, 1}} {
		p := programOf(t, rules[at[0]], rules[at[1]], rules[at[2]])
		ats(t, p, base, "a", 1, "q(a,b):3 |", false)
		ats(t, p, base, "a", 2, "p(a,b):3 q(a,b):3 |", false)
		ats(t, p, base, "a", 3, "p(a,b):3 q(a,b):3 t(a,b):3 |", false)
		ats(t, p, base, "a", 4, "p(a,b):3 q(a,b):3 t(a,b):3 | o(b):3", true)
	}
}

// TestPlacesK2: one at which no row is, and ones that no address can be.
func TestPlacesK2(t *testing.T) {
	base := rowsOf(t, `q(a,b):1 q("",a):2 q("A",a):3 q():4 q([],1):5`)
	const rows = `q():4 q("",a):2 q("A",a):3 q(a,b):1 q([],1):5`
	for _, place := range []string{"z", "aa", "b", "", "A", "a ", "@a", "\x00", "\xff", "1", "[]", `"a"`, strings.Repeat("a", 17), strings.Repeat("a", 1<<16)} {
		p := programOf(t, "p(@X,S) :- q(@S,X)", "p(@a,3) :- !q(@a,b)", "p(@X,Y) :- q(@X,Y)")
		ats(t, p, base, place, 6, "| p(a,3):forever "+rows, true)
		ats(t, p, base, place, 5, "|", false)
	}
	p := programOf(t, "p(@z,X) :- X := 1", "r(@S,X) :- p(@S,X)", "p(@a,X) :- r(@z,X)")
	ats(t, p, base, "z", 8, "p(z,1):forever r(z,1):forever | p(a,1):forever "+rows, true)
	ats(t, p, base, "y", 8, "| p(z,1):forever "+rows, true)
	ats(t, p, base, "z", 6, "p(z,1):forever r(z,1):forever |", false)
}

// TestFactsK2: facts of p that base does not have count for nothing.
func TestFactsK2(t *testing.T) {
	p := parsed(t, declared+"q(@a,1). q(@b,2). p(@a,7). r p(@S,X) :- q(@S,X).")
	ats(t, p, nil, "a", 9, "|", true)
	ats(t, p, rowsOf(t, "q(c,3):4"), "c", 2, "p(c,3):4 q(c,3):4 |", true)
	ats(t, p, Base(p, 5), "a", 9, "p(a,1):5 p(a,7):5 q(a,1):5 | q(b,2):5", true)
}

// TestDrawnK2 holds At against K2 told another way, for drawn programs and rows, whatever place and most are.
func TestDrawnK2(t *testing.T) {
	d := &drawer{seed: 43}
	whole, over, both, sent := 0, 0, 0, 0
	for range 2500 {
		p, base, place := d.program(t, anyKind), d.rows(t, 14), d.of("a a a b c z")
		all, beside, _ := fixedAt(p, base, place, 60)
		n := len(all) + len(beside)
		for _, most := range []int{60, n, n - 1, len(all), d.below(60), d.below(n+2) - 1} {
			here, others, ok := At(p, base, place, most)
			want, apart, is := fixedAt(p, base, place, most)
			if !sameRows(here, want) || !sameRows(others, apart) || ok != is {
				t.Fatalf("%v of %s at %s, %d at most: %s | %s, %t, not %s | %s, %t", p.Rules, telling(base), place, most, telling(here), telling(others), ok, telling(want), telling(apart), is)
			}
			switch {
			case ok && len(here) > len(worldOf(base).rowsAt(place, true)) && len(others) > len(worldOf(base).rowsAt(place, false)):
				both++
			case ok && len(others) > len(worldOf(base).rowsAt(place, false)):
				sent++
			case ok:
				whole++
			default:
				over++
			}
		}
	}
	if whole < 2500 || over < 2500 || both < 200 || sent < 500 {
		t.Error("too few:", whole, over, both, sent)
	}
}

// TestOrderOfBaseK2: it counts for nothing, nor does what stands there twice.
func TestOrderOfBaseK2(t *testing.T) {
	d := &drawer{seed: 44}
	for range 1500 {
		p, base, most := d.program(t, anyKind), d.rows(t, 14), d.below(40)
		here, others, ok := At(p, base, "a", most)
		turned := d.shuffled(slices.Concat(base, base[:d.below(len(base)+1)]))
		again, apart, is := At(p, turned, "a", most)
		if !sameRows(here, again) || !sameRows(others, apart) || ok != is {
			t.Fatalf("%v of %s: %s | %s; of %s: %s | %s", p.Rules, telling(base), telling(here), telling(others), telling(turned), telling(again), telling(apart))
		}
	}
}
