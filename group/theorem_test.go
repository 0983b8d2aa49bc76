package group

import (
	"cmp"
	"slices"
	"testing"

	"beaconry/api"
	"beaconry/fire"
	"beaconry/value"
)

// each hands on drawn rows, each time with an aggregate and a place, and what Group makes of them; it tells how often that is something.
func each(t *testing.T, seed uint32, aggs []string, check func(agg string, at int, l, got []api.Row)) {
	t.Helper()
	d := &drawer{seed: seed}
	some := 0
	for range 2500 {
		l := d.rows(t, 14)
		for _, agg := range aggs {
			for at := 1; at < 4; at++ {
				got := Group(agg, at, l)
				check(agg, at, l, got)
				some += min(1, len(got))
			}
		}
	}
	if some < 3000*len(aggs) {
		t.Error("too few:", some)
	}
}

// TestOneOfEachSetG3: each set has its row, and no row has none.
func TestOneOfEachSetG3(t *testing.T) {
	each(t, 31, []string{"min", "max", "count"}, func(agg string, at int, l, got []api.Row) {
		sets, seen := setsOf(at, l), map[string]int{}
		for _, r := range got {
			if at >= len(r.Args) || len(sets[keyBut(at, r)]) == 0 {
				t.Fatalf("%s at %d of %s: %s is of no set", agg, at, telling(l), telling([]api.Row{r}))
			}
			seen[keyBut(at, r)]++
		}
		if len(got) != len(sets) || len(seen) != len(sets) {
			t.Fatalf("%s at %d of %s: %s, of %d sets", agg, at, telling(l), telling(got), len(sets))
		}
		if !slices.IsSortedFunc(got, fire.Compare) || !sameRows(fire.Merge(got), got) {
			t.Fatalf("%s at %d of %s: %s is not in Merge's way", agg, at, telling(l), telling(got))
		}
	})
}

// TestThereAndNoneLessG3: `min` is one that is there, and none is less, `max` turned about.
func TestThereAndNoneLessG3(t *testing.T) {
	each(t, 32, []string{"min", "max"}, func(agg string, at int, l, got []api.Row) {
		beyond := map[string]int{"min": -1, "max": 1}[agg]
		sets := setsOf(at, l)
		for _, r := range got {
			there := 0
			for _, x := range sets[keyBut(at, r)] {
				c := value.Compare(x.Args[at], r.Args[at])
				if cmp.Compare(c, 0) == beyond {
					t.Fatalf("%s at %d of %s: %s", agg, at, telling(l), telling(got))
				}
				if c == 0 {
					there++
				}
			}
			if there == 0 {
				t.Fatalf("%s at %d of %s: %s is not there", agg, at, telling(l), value.Print(r.Args[at]))
			}
		}
	})
}

// TestStampsG3: a set lasts as long as some row of it, and none lasts longer.
func TestStampsG3(t *testing.T) {
	each(t, 33, []string{"min", "max", "count"}, func(agg string, at int, l, got []api.Row) {
		sets := setsOf(at, l)
		for _, r := range got {
			longest := slices.MaxFunc(sets[keyBut(at, r)], func(a, b api.Row) int { return cmp.Compare(a.Stamp, b.Stamp) })
			if r.Stamp != longest.Stamp {
				t.Fatalf("%s at %d of %s: %s", agg, at, telling(l), telling(got))
			}
		}
	})
}

// TestCountsG3: counts are 1 or above, and of all together as many as there are rows in Merge with that place.
func TestCountsG3(t *testing.T) {
	above := 0
	each(t, 34, []string{"count"}, func(agg string, at int, l, got []api.Row) {
		all := 0
		for _, r := range got {
			n := r.Args[at]
			if n.Kind != api.Int || n.Int < 1 || !value.Right(n) {
				t.Fatalf("at %d of %s: %s", at, telling(l), telling(got))
			}
			all += n.Int
			if n.Int > 1 {
				above++
			}
		}
		if want := having(at, fire.Merge(l)); all != len(want) {
			t.Fatalf("at %d of %s: %s, of %d rows", at, telling(l), telling(got), len(want))
		}
	})
	if above < 500 {
		t.Error("too few:", above)
	}
}

// TestTwiceG3: rows that are there twice count once.
func TestTwiceG3(t *testing.T) {
	each(t, 35, []string{"min", "max", "count"}, func(agg string, at int, l, got []api.Row) {
		if again := Group(agg, at, slices.Concat(l, l)); !sameRows(again, got) {
			t.Fatalf("%s at %d of %s: %s; twice: %s", agg, at, telling(l), telling(got), telling(again))
		}
		if again := Group(agg, at, fire.Merge(l)); !sameRows(again, got) {
			t.Fatalf("%s at %d of %s: %s; merged: %s", agg, at, telling(l), telling(got), telling(again))
		}
	})
}

// TestOrderOfRowsG3: it counts for nothing.
func TestOrderOfRowsG3(t *testing.T) {
	d := &drawer{seed: 37}
	each(t, 36, []string{"min", "max", "count"}, func(agg string, at int, l, got []api.Row) {
		other := d.shuffled(l)
		if again := Group(agg, at, other); !sameRows(again, got) {
			t.Fatalf("%s at %d of %s: %s; of %s: %s", agg, at, telling(l), telling(got), telling(other), telling(again))
		}
	})
}

// TestOrderOfRowsOfRuleG3: nor does it for what a rule makes.
func TestOrderOfRowsOfRuleG3(t *testing.T) {
	d := &drawer{seed: 38}
	some := 0
	for range 3000 {
		r, l := d.rule(t), d.rows(t, 14)
		other := d.shuffled(l)
		got, again := Rule(r, l), Rule(r, other)
		if !sameRows(got, again) {
			t.Fatalf("%v of %s: %s; of %s: %s", r, telling(l), telling(got), telling(other), telling(again))
		}
		some += min(1, len(got))
	}
	if some < 1000 {
		t.Error("too few:", some)
	}
}
