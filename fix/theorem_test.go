package fix

import (
	"slices"
	"strings"
	"testing"

	"beaconry/api"
	"beaconry/fire"
	"beaconry/group"
	"beaconry/parser"
	"beaconry/printer"
)

// positive is without LitNots and aggregates.
var positive = kind{free: true, away: true}

// most is as many rows as drawn calls may make.
const most = 80

// stampOf is that of the same row among rows; false: there is none.
func stampOf(r api.Row, l []api.Row) (int, bool) {
	i := slices.IndexFunc(l, func(x api.Row) bool { return keyOfRow(x) == keyOfRow(r) })
	if i < 0 {
		return 0, false
	}
	return l[i].Stamp, true
}

// covers tells whether each of the rows is among l, with no lesser stamp.
func covers(l, rows []api.Row) bool {
	return !slices.ContainsFunc(rows, func(r api.Row) bool {
		stamp, ok := stampOf(r, l)
		return !ok || stamp < r.Stamp
	})
}

// each hands on drawn programs that have strata, rows, and what Fix makes of them, if that is whole; it asks for so many in which rules made something.
func each(t *testing.T, seed uint32, k kind, times, least int, check func(d *drawer, p api.Program, base, got []api.Row)) {
	t.Helper()
	d := &drawer{seed: seed}
	some := 0
	for range times {
		p, base := d.layered(t, k), d.rows(t, 14)
		got, whole := Fix(p, base, most)
		if !whole {
			continue
		}
		check(d, p, base, got)
		some += min(1, len(got)-len(worldOf(base)))
	}
	if some < least {
		t.Error("too few:", some)
	}
}

// madeBy is what rules make of rows, each rule by itself.
func madeBy(p api.Program, l []api.Row) []api.Row {
	var out []api.Row
	for _, r := range p.Rules {
		out = append(out, group.Rule(r, l)...)
	}
	return out
}

// TestClosedK3: no rule makes more of what is whole, nor greater stamps; all of base is there.
func TestClosedK3(t *testing.T) {
	each(t, 51, anyKind, 4000, 1500, func(_ *drawer, p api.Program, base, got []api.Row) {
		if !covers(got, base) || !covers(got, madeBy(p, got)) {
			t.Fatalf("%v of %s: %s; of that: %s", p.Rules, telling(base), telling(got), telling(madeBy(p, got)))
		}
		if !sameRows(fire.Merge(got), got) {
			t.Fatalf("%v of %s: %s is not in Merge's way", p.Rules, telling(base), telling(got))
		}
	})
}

// TestClosedAtK3: so it is of one place, of what is there.
func TestClosedAtK3(t *testing.T) {
	d := &drawer{seed: 52}
	some := 0
	for range 3000 {
		p, base := d.layered(t, anyKind), d.rows(t, 14)
		here, others, whole := At(p, base, "a", most)
		if !whole {
			continue
		}
		all := slices.Concat(here, others)
		if !covers(all, base) || !covers(all, madeBy(p, here)) {
			t.Fatalf("%v of %s: %s | %s; of that here: %s", p.Rules, telling(base), telling(here), telling(others), telling(madeBy(p, here)))
		}
		if !sameRows(fire.Merge(here), here) || !sameRows(fire.Merge(others), others) {
			t.Fatalf("%v of %s: %s | %s is not in Merge's way", p.Rules, telling(base), telling(here), telling(others))
		}
		some += min(1, len(all)-len(worldOf(base)))
	}
	if some < 1000 {
		t.Error("too few:", some)
	}
}

// TestMadeK3: each row of it is of base, or made by a rule, and lasts as long as the longest of these does.
func TestMadeK3(t *testing.T) {
	each(t, 53, anyKind, 4000, 1500, func(_ *drawer, p api.Program, base, got []api.Row) {
		if want := worldOf(slices.Concat(base, madeBy(p, got))).rows(); !sameRows(got, want) {
			t.Fatalf("%v of %s: %s, not %s", p.Rules, telling(base), telling(got), telling(want))
		}
	})
}

// TestNoRowHoldsItselfK3: nothing is there that only follows from itself: rows come one rule after the other, too.
func TestNoRowHoldsItselfK3(t *testing.T) {
	each(t, 54, anyKind, 4000, 1500, func(_ *drawer, p api.Program, base, got []api.Row) {
		all, _ := strataOf(p)
		w := worldOf(base)
		for _, rules := range all {
			for changed := true; changed; {
				changed = false
				for _, r := range rules {
					changed = w.put(group.Rule(r, w.rows())) || changed
				}
			}
		}
		if !sameRows(got, w.rows()) {
			t.Fatalf("%v of %s: %s, not %s", p.Rules, telling(base), telling(got), telling(w.rows()))
		}
	})
}

// more are these rows, some of them with greater or lesser stamps beside, and others.
func (d *drawer) more(t *testing.T, l []api.Row) []api.Row {
	t.Helper()
	out := append(slices.Clone(l), d.rows(t, 4)...)
	for range d.below(4) {
		if len(l) > 0 {
			r := l[d.below(len(l))]
			r.Stamp += d.below(7) - 2
			out = append(out, r)
		}
	}
	return d.shuffled(out)
}

// TestMoreRowsK3: more rows make no fewer, nor lesser stamps, without LitNots and aggregates.
func TestMoreRowsK3(t *testing.T) {
	raised := 0
	each(t, 55, positive, 4000, 1500, func(d *drawer, p api.Program, base, got []api.Row) {
		more := d.more(t, base)
		many, whole := Fix(p, more, 3*most)
		if whole && !covers(many, got) {
			t.Fatalf("%v of %s: %s; of %s: %s", p.Rules, telling(base), telling(got), telling(more), telling(many))
		}
		if !covers(got, many) {
			raised++
		}
	})
	if raised < 1000 {
		t.Error("too few:", raised)
	}
}

// TestMoreRowsWithNotK3: with a LitNot, or an aggregate, they may make fewer.
func TestMoreRowsWithNotK3(t *testing.T) {
	fixesWhole(t, "q(a,1):3", "p(a,1):3 q(a,1):3", "p(@S,X) :- q(@S,X), !t(@S,X)")
	fixesWhole(t, "q(a,1):3 t(a,1):1", "q(a,1):3 t(a,1):1", "p(@S,X) :- q(@S,X), !t(@S,X)")
	fixesWhole(t, "q(a,2):3", "p(a,2):3 q(a,2):3", "p(@S,min<X>) :- q(@S,X)")
	fixesWhole(t, "q(a,2):3 q(a,1):1", "p(a,1):3 q(a,1):1 q(a,2):3", "p(@S,min<X>) :- q(@S,X)")
}

// TestStampsK3: none is greater than the greatest of base, if each rule has an atom, without LitNots and aggregates.
func TestStampsK3(t *testing.T) {
	each(t, 56, kind{away: true}, 4000, 1500, func(_ *drawer, p api.Program, base, got []api.Row) {
		longest := -1 << 63
		for _, r := range base {
			longest = max(longest, r.Stamp)
		}
		if slices.ContainsFunc(got, func(r api.Row) bool { return r.Stamp > longest }) {
			t.Fatalf("%v of %s: %s", p.Rules, telling(base), telling(got))
		}
	})
}

// TestAgainK3: Fix of what Fix made is the same, without LitNots and aggregates.
func TestAgainK3(t *testing.T) {
	each(t, 57, positive, 4000, 1500, func(_ *drawer, p api.Program, base, got []api.Row) {
		if again, whole := Fix(p, got, len(got)); !whole || !sameRows(got, again) {
			t.Fatalf("%v of %s: %s; of that: %s, %t", p.Rules, telling(base), telling(got), telling(again), whole)
		}
	})
}

// TestOtherStampsK3: with all stamps alike the same rows follow as with any others, whole or not.
func TestOtherStampsK3(t *testing.T) {
	with := func(l []api.Row, stamp func() int) []api.Row {
		out := slices.Clone(l)
		for i := range out {
			out[i].Stamp = stamp()
		}
		return out
	}
	d := &drawer{seed: 58}
	some := 0
	for range 3000 {
		p, base := d.layered(t, anyKind), d.rows(t, 14)
		alike, other := with(base, func() int { return 4 }), with(base, func() int { return d.below(9) - 4 })
		for _, n := range []int{most, d.below(30)} {
			got, whole := Fix(p, base, n)
			for _, l := range [][]api.Row{alike, other} {
				again, is := Fix(p, l, n)
				if is != whole || !slices.EqualFunc(got, again, func(x, y api.Row) bool { return keyOfRow(x) == keyOfRow(y) }) {
					t.Fatalf("%v of %s: %s, %t; of %s: %s, %t", p.Rules, telling(base), telling(got), whole, telling(l), telling(again), is)
				}
			}
			some += min(1, len(got))
		}
	}
	if some < 4000 {
		t.Error("too few:", some)
	}
}

// staying is the same program with all heads where their rules read.
func staying(t *testing.T, p api.Program) api.Program {
	t.Helper()
	var lines []string
	for line := range strings.Lines(printer.Print(p)) {
		head, body, rule := strings.Cut(line, " :- ")
		if _, rest, ok := strings.Cut(head, "(@"); rule && ok && strings.Contains(body, "(@S,") {
			_, rest, _ = strings.Cut(rest, ",")
			name, _, _ := strings.Cut(head, "(@")
			line = name + "(@S," + rest + " :- " + body
		} else if rule {
			line = strings.Replace(line, "(@b,", "(@a,", 1)
		}
		lines = append(lines, line)
	}
	out, e, at := parser.Parse(strings.Join(lines, ""))
	if e != api.OK {
		t.Fatal(lines, e, at)
	}
	return out
}

// TestOnePlaceK3: where all is at one place, At tells what Fix tells, whole or not.
func TestOnePlaceK3(t *testing.T) {
	d := &drawer{seed: 59}
	some := 0
	for range 3000 {
		p := staying(t, d.layered(t, anyKind))
		if _, ok := strataOf(p); !ok {
			continue
		}
		base := worldOf(d.rows(t, 20)).rowsAt("a", true)
		for _, n := range []int{most, d.below(20)} {
			got, whole := Fix(p, base, n)
			here, others, is := At(p, base, "a", n)
			if !sameRows(got, here) || len(others) > 0 || whole != is {
				t.Fatalf("%v of %s: %s, %t; at a: %s | %s, %t", p.Rules, telling(base), telling(got), whole, telling(here), telling(others), is)
			}
			if whole {
				some += min(1, len(got)-len(base))
			}
		}
	}
	if some < 1000 {
		t.Error("too few:", some)
	}
}

// wrongs are values that are not right.
func wrongs() []api.Value {
	deep := num(1)
	for range 1 << 12 {
		deep = list(deep)
	}
	return []api.Value{
		{}, {Kind: -1}, {Kind: 5}, {Kind: 5, Int: 1}, {Kind: 1 << 62, Text: "x", List: []api.Value{num(1)}}, num(1 << 31), num(-1 << 63), num(1<<63 - 1), addr(""), addr("A"), text("\xff"), text(strings.Repeat("x", 1<<12)),
		{Kind: api.Int, Int: 1, Text: "x"}, {Kind: api.Int, Int: 1, List: []api.Value{num(2)}}, {Kind: api.Addr, Text: "a", Int: 2}, {Kind: api.Addr, Text: "a", List: []api.Value{num(2)}}, {Kind: api.List, Text: "a", Int: 2}, deep, list(slices.Repeat([]api.Value{num(1)}, 1<<8)...), list(api.Value{}), list(api.Value{Kind: 9}),
	}
}

// TestWrongValuesEnd: of rows with values that are not right, wherever they stand, calls end.
func TestWrongValuesEnd(t *testing.T) {
	var l []api.Row
	for _, x := range wrongs() {
		for _, args := range [][]api.Value{{x}, {x, num(1)}, {addr("a"), x}, {x, x}, {addr("a"), x, num(1)}} {
			for _, name := range []string{"q", "p", "link"} {
				l = append(l, api.Row{Name: name, Args: args, Stamp: len(l) % 7})
			}
		}
	}
	l = append(l, rowsOf(t, "p(a,1):3 q(a,2):4 q(a,1):9")...)
	for _, rules := range [][]string{
		nil,
		{"p(@S,X) :- q(@S,X)", "q(@S,X) :- p(@S,X)"},
		{"p(@X,S) :- q(@S,X)", "q(@S,X) :- p(@S,X)"},
		{"p(@S,Y) :- p(@S,X), Y := (X+1), Y < 4", "r(@S,X) :- p(@S,X), !q(@S,X)", "s(@S,max<X>) :- r(@S,X)"},
		{"p(@S,Y) :- q(@S,X), Y := f_cons(X,[])", "p(@S,Y) :- p(@S,X), Y := f_first(X)", "r(@S,count<X>) :- p(@S,X)"},
	} {
		p := programOf(t, rules...)
		for _, x := range wrongs() {
			p.Facts = append(p.Facts, api.Tuple{Name: "q", Args: []api.Value{addr("a"), x}}, api.Tuple{Name: "q", Args: []api.Value{x}})
		}
		Base(p, 3)
		p.Facts = nil
		for _, most := range []int{-1, 0, len(l), 1000, 1<<63 - 1} {
			Fix(p, l, most)
			for _, place := range []string{"a", "", "A", "1"} {
				At(p, l, place, most)
			}
		}
	}
}
