package fire

import (
	"slices"
	"strings"
	"testing"

	"beaconry/api"
)

func TestCompareF1(t *testing.T) {
	// Each of these is ahead of all behind it.
	inOrder := []string{
		"a():9", "a(0):1", "a(1):1", "ab():1", "b():1",
		"p():1", "p(-2147483647):1", "p(-1):1", "p(0):1", "p(2):1", "p(10):1", "p(2147483647):1", `p(""):1`, `p("a"):1`, `p("ab"):1`, `p("b"):1`,
		"p(a):5", "p(a,-3):4", "p(a,3):1", "p(a,3,0):0", "p(a,3,[]):1", "p(a,4):1", `p(a,"3"):1`, "p(a,a):1", "p(a,a,a):1", "p(a,ab):1", "p(a,[]):1", "p(a,[],0):1", "p(a,[1]):1", "p(a,[1],[]):1", "p(a,[1,0]):1", "p(a,[2]):1", "p(a,[[]]):1",
		"p(ab):1", "p(ab,0):1", "p(b):1", "p([]):1", "p([a]):1", "p0():1", "p_():1", "pa():1", "pq(a):1", "q():1",
	}
	l := rowsOf(t, strings.Join(inOrder, " "))
	for i, a := range l {
		for k, b := range l {
			b.Stamp += (i + k) % 3
			want := 0
			if i < k {
				want = -1
			} else if i > k {
				want = 1
			}
			if got := Compare(a, b); got != want {
				t.Errorf("%s and %s: %d, not %d", inOrder[i], inOrder[k], got, want)
			}
		}
	}
}

// TestCompareOfAnyNamesF1: names need not be right; they are held against each other byte by byte.
func TestCompareOfAnyNamesF1(t *testing.T) {
	names := []string{"", "\x00", " ", "A", "P", "a", "a\x00", "a\x00b", "a!", "aa", "z", "\x7f", "\xc3\xa9", "\xc3\xaa", "\xf0", "\xfe", "\xff", "\xff\x00"}
	for i, a := range names {
		for k, b := range names {
			// What stands in Args counts for nothing where names are unlike.
			x, y := api.Row{Name: a, Args: []api.Value{num(k)}, Stamp: k}, api.Row{Name: b, Args: []api.Value{num(i)}, Stamp: i}
			if got, want := Compare(x, y), strings.Compare(a, b); got != want {
				t.Errorf("%q and %q: %d, not %d", a, b, got, want)
			}
		}
	}
}

func TestCompareOfStampsF1(t *testing.T) {
	stamps := []int{-1 << 63, -1, 0, 1, api.Forever, 1<<63 - 1}
	for _, s := range []string{"p():0", "p(a):0", `q(b,3,[a,["x"]]):0`} {
		x, y := rowsOf(t, s)[0], rowsOf(t, s)[0]
		for _, x.Stamp = range stamps {
			for _, y.Stamp = range stamps {
				if got := Compare(x, y); got != 0 {
					t.Errorf("%s: %d of stamps %d and %d", s, got, x.Stamp, y.Stamp)
				}
			}
		}
	}
}

func TestMergeF1(t *testing.T) {
	for s, want := range map[string]string{
		"": "", "q(a,3):7": "q(a,3):7", "q():0": "q():0", "q(a,3):-5": "q(a,3):-5", "q(3,a):forever": "q(3,a):forever",
		// Sames, with like and with unlike stamps.
		"q(a):3 q(a):3": "q(a):3", "q(a):3 q(a):5": "q(a):5", "q(a):5 q(a):3": "q(a):5", "q(a):3 q(a):5 q(a):4": "q(a):5", "q(a):1 q(b):9 q(a):2 q(b):8 q(a):1": "q(a):2 q(b):9", "q([1,[a]]):1 q([1,[b]]):9 q([1,[a]]):2": "q([1,[a]]):2 q([1,[b]]):9", "q():1 q():2": "q():2",
		"q(a):-3 q(a):-5": "q(a):-3", "q(a):-3 q(a):0": "q(a):0", "q(a):0 q(a):-9": "q(a):0", "q(a):7 q(a):forever q(a):9": "q(a):forever", "q(a):-1 q(a):forever": "q(a):forever", "q(a):1099511627777 q(a):forever": "q(a):1099511627777", "q(a):9223372036854775807 q(a):-9223372036854775808": "q(a):9223372036854775807",
		// Nearly sames.
		`q("a"):1 q(a):2 q([a]):3 q([[a]]):4 q(["a"]):5`: `q("a"):1 q(a):2 q(["a"]):5 q([a]):3 q([[a]]):4`, `q(1):3 q("1"):4 q([1]):5`: `q(1):3 q("1"):4 q([1]):5`, "q(a,b):1 q(b,a):2": "q(a,b):1 q(b,a):2", "q(a):1 t(a):2": "q(a):1 t(a):2",
		// One's Args are a beginning of another one's.
		"q(a,3,1):1 q(a,3):2 q(a):3 q():4": "q():4 q(a):3 q(a,3):2 q(a,3,1):1", "q(a):1 q(a,0):5 q(a):2 q(a,0):4": "q(a):2 q(a,0):5", "q(b):1 q(a,3):2": "q(a,3):2 q(b):1", "q([1,2]):1 q([1]):2 q([1,2]):3": "q([1]):2 q([1,2]):3",
		// One's Name is a beginning of another one's.
		"qq(a):1 q(b):2 q(a):3": "q(a):3 q(b):2 qq(a):1", "q(z):1 q_(b):2 q0(b):3 qa(a):4 r(a):5 p(z):6": "p(z):6 q(z):1 q0(b):3 q_(b):2 qa(a):4 r(a):5", "qa():1 q(a):2 qa(a):3": "q(a):2 qa():1 qa(a):3",
	} {
		l := rowsOf(t, s)
		if got := telling(Merge(l)); got != want {
			t.Errorf("%s: %s, not %s", s, got, want)
		}
		slices.Reverse(l)
		if got := telling(Merge(l)); got != want {
			t.Errorf("%s, turned about: %s, not %s", s, got, want)
		}
		if got := telling(Merge(append(l, l...))); got != want {
			t.Errorf("%s, twice: %s, not %s", s, got, want)
		}
	}
}

func TestMergeOfNothingF1(t *testing.T) {
	l := rowsOf(t, "q(b):1 q(a):2")
	for _, none := range [][]api.Row{nil, {}, l[:0]} {
		if got := Merge(none); len(got) > 0 {
			t.Error(got)
		}
	}
	if got := telling(Merge(l[:1])); got != "q(b):1" {
		t.Error("what stands behind a length counts:", got)
	}
}

// TestMergeOfManyF1: as many rows as come, of any number of Args.
func TestMergeOfManyF1(t *testing.T) {
	const n = 50000
	var l []api.Row
	for i := range n {
		l = append(l, api.Row{Name: "q", Args: []api.Value{addr("a"), num(i * 7919 % n), num(i % 2)}, Stamp: i})
		l = append(l, api.Row{Name: "q", Args: []api.Value{addr("a"), num(i)}, Stamp: -i}, api.Row{Name: "q", Args: []api.Value{addr("a"), num(i)}, Stamp: 1})
	}
	got := Merge(l)
	if len(got) != 2*n || !sameRows(got, mergedRows(l)) {
		t.Error(len(got))
	}
	long := api.Row{Name: strings.Repeat("q", n), Args: slices.Repeat([]api.Value{num(1)}, n), Stamp: 1}
	longer := api.Row{Name: long.Name, Args: append(long.Args[:n:n], num(0)), Stamp: 2}
	if got := Merge([]api.Row{longer, long, longer, long}); !sameRows(got, []api.Row{long, longer}) {
		t.Error("rows of many Args:", len(got))
	}
}

// TestDrawnF1: Merge is a set of rows, and Compare is the order that it comes in.
func TestDrawnF1(t *testing.T) {
	d := &drawer{seed: 11}
	twice := 0
	for range 4000 {
		l := d.rows(t, 12)
		got := Merge(l)
		if want := mergedRows(l); !sameRows(got, want) {
			t.Fatalf("%s: %s, not %s", telling(l), telling(got), telling(want))
		}
		if !sameRows(Merge(got), got) {
			t.Fatalf("%s: another one when it is merged again", telling(got))
		}
		for _, a := range l {
			for _, b := range l {
				if Compare(a, b) != byKey(a, b) {
					t.Fatal(telling([]api.Row{a, b}), Compare(a, b))
				}
			}
		}
		if len(got) < len(l) {
			twice++
		}
	}
	if twice < 1000 {
		t.Error("too few sames:", twice)
	}
}
