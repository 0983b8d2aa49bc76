package group

import (
	"slices"
	"strconv"
	"strings"
	"testing"

	"beaconry/api"
	"beaconry/fire"
)

// groups asks for what the three make of rows at a place: min, max and count.
func groups(t *testing.T, at int, rows string, want [3]string) {
	t.Helper()
	l := rowsOf(t, rows)
	for i, agg := range []string{"min", "max", "count"} {
		groupsOf(t, agg, at, l, want[i])
	}
}

// groupsOf asks for the same however the rows come, and for what G1 asks told another way.
func groupsOf(t *testing.T, agg string, at int, l []api.Row, want string) {
	t.Helper()
	if got := telling(Group(agg, at, l)); got != want {
		t.Errorf("%s at %d of %s: %s, not %s", agg, at, telling(l), got, want)
	}
	if got := telling(groupedRows(agg, at, l)); got != want {
		t.Errorf("%s at %d of %s: %s, told another way: %s", agg, at, telling(l), want, got)
	}
	other := slices.Concat(l, l)
	slices.Reverse(other)
	if got := telling(Group(agg, at, other)); got != want {
		t.Errorf("%s at %d of %s, turned about and twice: %s, not %s", agg, at, telling(l), got, want)
	}
}

// TestOneSetG1: rows that are alike but for at.
func TestOneSetG1(t *testing.T) {
	for s, want := range map[string][3]string{
		"p(a,3):4 p(a,5):2":                                        {"p(a,3):4", "p(a,5):4", "p(a,2):4"},
		"p(a,5):2 p(a,3):4 p(a,4):9":                               {"p(a,3):9", "p(a,5):9", "p(a,3):9"},
		"p(a,10):1 p(a,9):1 p(a,-9):1":                             {"p(a,-9):1", "p(a,10):1", "p(a,3):1"},
		"p(a,-1):1 p(a,0):1 p(a,-10):1":                            {"p(a,-10):1", "p(a,0):1", "p(a,3):1"},
		"p(a,2147483647):1 p(a,-2147483647):2":                     {"p(a,-2147483647):2", "p(a,2147483647):2", "p(a,2):2"},
		`p(a,"b"):3 p(a,"ab"):1 p(a,"a"):2`:                        {`p(a,"a"):3`, `p(a,"b"):3`, "p(a,3):3"},
		`p(a,"10"):3 p(a,"9"):1 p(a,""):2`:                         {`p(a,""):3`, `p(a,"9"):3`, "p(a,3):3"},
		"p(a,c):3 p(a,ca):1 p(a,b2):2":                             {"p(a,b2):3", "p(a,ca):3", "p(a,3):3"},
		"p(a,[2]):3 p(a,[1,9]):1 p(a,[1]):2 p(a,[[]]):5 p(a,[]):4": {"p(a,[]):5", "p(a,[[]]):5", "p(a,5):5"},
		"p(a,[a,[b]]):3 p(a,[a,[c]]):1 p(a,[a,[b,0]]):2":           {"p(a,[a,[b]]):3", "p(a,[a,[c]]):3", "p(a,3):3"},
		"p(3,a):1 p(3,b):2":                                        {"p(3,a):2", "p(3,b):2", "p(3,2):2"},
		"p([],a):1 p([],b):2":                                      {"p([],a):2", "p([],b):2", "p([],2):2"},
		`p("a",a):2 p("a",b):1`:                                    {`p("a",a):2`, `p("a",b):2`, `p("a",2):2`},
		"p(a,[2,1]):1 p(a,[1,2]):1":                                {"p(a,[1,2]):1", "p(a,[2,1]):1", "p(a,2):1"},
	} {
		groups(t, 1, s, want)
	}
}

// TestUnlikeKindsG1: numbers come ahead of texts, these ahead of addresses, and those ahead of lists.
func TestUnlikeKindsG1(t *testing.T) {
	groups(t, 1, `p(a,[]):1 p(a,a):2 p(a,""):3 p(a,9):4`, [3]string{"p(a,9):4", "p(a,[]):4", "p(a,4):4"})
	groups(t, 1, `p(a,"a"):1 p(a,a):2`, [3]string{`p(a,"a"):2`, "p(a,a):2", "p(a,2):2"})
	groups(t, 1, `p(a,[0]):5 p(a,z):2`, [3]string{"p(a,z):5", "p(a,[0]):5", "p(a,2):5"})
	groups(t, 1, `p(a,"1"):1 p(a,1):2 p(a,[1]):3 p(a,[[1]]):4 p(a,["1"]):3`, [3]string{"p(a,1):4", "p(a,[[1]]):4", "p(a,5):4"})
	groups(t, 2, `p(a,7,-5):1 p(a,7,"-5"):1 p(a,7,z9):1 p(a,8,[]):1 p(a,8,b):1`, [3]string{`p(a,7,-5):1 p(a,8,b):1`, "p(a,7,z9):1 p(a,8,[]):1", "p(a,7,3):1 p(a,8,2):1"})
}

func TestSeveralSetsG1(t *testing.T) {
	const links = "l(a,b,3):4 l(a,b,1):2 l(a,c,7):6 l(b,b,1):5 l(b,c,2):1 l(b,c,9):3 l(b,c,4):2"
	groups(t, 2, links, [3]string{"l(a,b,1):4 l(a,c,7):6 l(b,b,1):5 l(b,c,2):3", "l(a,b,3):4 l(a,c,7):6 l(b,b,1):5 l(b,c,9):3", "l(a,b,2):4 l(a,c,1):6 l(b,b,1):5 l(b,c,3):3"})
	// What stands behind that place counts as much as what stands ahead.
	groups(t, 1, "l(a,b,1):4 l(a,c,1):2 l(a,b,2):7 l(b,d,1):5", [3]string{"l(a,b,1):4 l(a,b,2):7 l(b,d,1):5", "l(a,b,2):7 l(a,c,1):4 l(b,d,1):5", "l(a,1,2):7 l(a,2,1):4 l(b,1,1):5"})
}

// TestEachPlaceG1: of these rows just two are alike but for any one place.
func TestEachPlaceG1(t *testing.T) {
	const long = `p(a,1,x,[1],"s",2):1 p(a,2,x,[1],"s",2):2 p(a,1,y,[1],"s",2):3 p(a,1,x,[2],"s",2):4 p(a,1,x,[1],"t",2):5 p(a,1,x,[1],"s",3):6 p(b,1,x,[1],"s",2):7`
	first, l := rowsOf(t, long)[:1], rowsOf(t, long)
	for at := 1; at < 6; at++ {
		less, greater := telling(first), telling(l[at:at+1])
		less = strings.Replace(less, ":1", ":"+strconv.Itoa(at+1), 1)
		for agg, want := range map[string]string{"min": less, "max": greater} {
			got := Group(agg, at, l)
			if len(got) != 6 || !slices.Contains(strings.Fields(telling(got)), want) || !sameRows(got, groupedRows(agg, at, l)) {
				t.Errorf("%s at %d: %s, without %s", agg, at, telling(got), want)
			}
		}
		var counts []int
		for _, r := range Group("count", at, l) {
			counts = append(counts, r.Args[at].Int)
		}
		slices.Sort(counts)
		if !slices.Equal(counts, []int{1, 1, 1, 1, 1, 2}) {
			t.Errorf("counts at %d: %d", at, counts)
		}
	}
}

// TestSetsBesideG1: no two sets fall together where one's argument would end as another one's begins.
func TestSetsBesideG1(t *testing.T) {
	groups(t, 1, "p(a,1,ab,c):1 p(a,1,a,bc):2", [3]string{"p(a,1,a,bc):2 p(a,1,ab,c):1", "p(a,1,a,bc):2 p(a,1,ab,c):1", "p(a,1,a,bc):2 p(a,1,ab,c):1"})
	groups(t, 1, "p(a,1,[1],[]):1 p(a,2,[],[1]):2", [3]string{"p(a,1,[1],[]):1 p(a,2,[],[1]):2", "p(a,1,[1],[]):1 p(a,2,[],[1]):2", "p(a,1,[],[1]):2 p(a,1,[1],[]):1"})
	groups(t, 1, "p(a,b,a):1 p(b,a,a):2 p(a,a,b):3", [3]string{"p(a,a,b):3 p(a,b,a):1 p(b,a,a):2", "p(a,a,b):3 p(a,b,a):1 p(b,a,a):2", "p(a,1,a):1 p(a,1,b):3 p(b,1,a):2"})
	groups(t, 2, `p(a,1,5):1 p(a,"1",4):2 p(a,[1],3):3`, [3]string{`p(a,1,5):1 p(a,"1",4):2 p(a,[1],3):3`, `p(a,1,5):1 p(a,"1",4):2 p(a,[1],3):3`, `p(a,1,1):1 p(a,"1",1):2 p(a,[1],1):3`})
	groups(t, 1, `p(a,1):1 p("a",2):2 p([a],3):3`, [3]string{`p("a",2):2 p(a,1):1 p([a],3):3`, `p("a",2):2 p(a,1):1 p([a],3):3`, `p("a",1):2 p(a,1):1 p([a],1):3`})
}

// TestFewG1: no rows, and one.
func TestFewG1(t *testing.T) {
	l := rowsOf(t, "p(a,3):4 p(a,5):2")
	for agg, want := range map[string]string{"min": "p(a,3):4", "max": "p(a,3):4", "count": "p(a,1):4", "": "", "sum": ""} {
		for _, none := range [][]api.Row{nil, {}, l[:0]} {
			for at := -1; at < 4; at++ {
				if got := Group(agg, at, none); len(got) > 0 {
					t.Error(agg, at, telling(got))
				}
			}
		}
		if got := telling(Group(agg, 1, l[:1])); got != want {
			t.Errorf("%s: %s, not %s: what stands behind a length counts", agg, got, want)
		}
	}
	groups(t, 1, "p(a,3):4", [3]string{"p(a,3):4", "p(a,3):4", "p(a,1):4"})
	groups(t, 2, "p(a,3,[]):-4", [3]string{"p(a,3,[]):-4", "p(a,3,[]):-4", "p(a,3,1):-4"})
	groups(t, 1, "p(a,3,[]):forever", [3]string{"p(a,3,[]):forever", "p(a,3,[]):forever", "p(a,1,[]):forever"})
	groups(t, 1, "p(a,x):0", [3]string{"p(a,x):0", "p(a,x):0", "p(a,1):0"})
}

// TestPlacesG1: below 1 there is nothing, and behind the last argument there is none.
func TestPlacesG1(t *testing.T) {
	const rows = "p(a,3,7):4 p(b,3,7):5 p(a,5,7):2 p(a,3,9):1"
	for _, at := range []int{0, -1, -2, -3, -1 << 31, -1 << 63, 3, 4, 5, 1 << 16, 1 << 31, 1 << 40, 1<<63 - 1} {
		groups(t, at, rows, [3]string{})
	}
	groups(t, 1, rows, [3]string{"p(a,3,7):4 p(a,3,9):1 p(b,3,7):5", "p(a,3,9):1 p(a,5,7):4 p(b,3,7):5", "p(a,1,9):1 p(a,2,7):4 p(b,1,7):5"})
	// The last argument's place.
	groups(t, 2, rows, [3]string{"p(a,3,7):4 p(a,5,7):2 p(b,3,7):5", "p(a,3,9):4 p(a,5,7):2 p(b,3,7):5", "p(a,3,2):4 p(a,5,1):2 p(b,3,1):5"})
	groups(t, 6, "p(a,1,2,3,4,5,6):3 p(a,1,2,3,4,5,8):2", [3]string{"p(a,1,2,3,4,5,6):3", "p(a,1,2,3,4,5,8):3", "p(a,1,2,3,4,5,2):3"})
	groups(t, 1, "p():1 p(a):2", [3]string{})
	groups(t, 0, "p():1 p(a):2", [3]string{})
}

// TestLeftAwayG1: rows that have no argument there, beside ones that have.
func TestLeftAwayG1(t *testing.T) {
	const rows = "p(a,3):9 p(a):8 p():7 p(a,5):1 q(a):6 q(a,b,2):5 p(a,3,7):2 p(b):3 q():4 q(a,b,1):3"
	groups(t, 1, rows, [3]string{"p(a,3):9 p(a,3,7):2 q(a,b,1):3 q(a,b,2):5", "p(a,3,7):2 p(a,5):9 q(a,b,1):3 q(a,b,2):5", "p(a,1,7):2 p(a,2):9 q(a,1,1):3 q(a,1,2):5"})
	groups(t, 2, rows, [3]string{"p(a,3,7):2 q(a,b,1):5", "p(a,3,7):2 q(a,b,2):5", "p(a,3,1):2 q(a,b,2):5"})
	groups(t, 3, rows, [3]string{})
}

// TestNoneOfThreeG1: an agg that is none of the three.
func TestNoneOfThreeG1(t *testing.T) {
	l := rowsOf(t, "p(a,3):4 p(a,5):2 p(b,x,[]):1")
	for _, agg := range []string{"", " ", "sum", "avg", "mi", "minn", "ma", "maxi", "maxmin", "coun", "counts", "Min", "MIN", "Max", "Count", "COUNT", "min ", " min", "max\x00", "\x00max", "c\u043eunt", "count<X>", "min,max", "f_size", "+", "<", "\xff", strings.Repeat("min", 1<<12)} {
		for _, at := range []int{-1, 0, 1, 2, 3} {
			if got := Group(agg, at, l); len(got) > 0 {
				t.Errorf("%.40q at %d: %s", agg, at, telling(got))
			}
		}
	}
}

// TestSamesG1: rows that are the same, with like and with unlike stamps, count once, and the greatest stamp counts.
func TestSamesG1(t *testing.T) {
	groups(t, 1, "p(a,3):4 p(a,3):4", [3]string{"p(a,3):4", "p(a,3):4", "p(a,1):4"})
	groups(t, 1, "p(a,3):4 p(a,3):6 p(a,3):5", [3]string{"p(a,3):6", "p(a,3):6", "p(a,1):6"})
	groups(t, 1, "p(a,3):4 p(a,5):2 p(a,3):4 p(a,5):2 p(a,5):2", [3]string{"p(a,3):4", "p(a,5):4", "p(a,2):4"})
	groups(t, 1, "p(a,3):1 p(a,5):2 p(a,3):7 p(a,5):3", [3]string{"p(a,3):7", "p(a,5):7", "p(a,2):7"})
	groups(t, 1, "p(a,3):1 p(a,5):8 p(a,3):7 p(a,5):3", [3]string{"p(a,3):8", "p(a,5):8", "p(a,2):8"})
	groups(t, 2, "p(a,b,[1]):1 p(a,c,[1]):2 p(a,b,[1]):3 p(a,c,[1]):2 p(a,b,[2]):1", [3]string{"p(a,b,[1]):3 p(a,c,[1]):2", "p(a,b,[2]):3 p(a,c,[1]):2", "p(a,b,2):3 p(a,c,1):2"})
	// One value at that place, and not alike beside.
	groups(t, 1, "p(a,3,x):1 p(a,3,y):2 p(b,3,x):3 p(a,3,x):4", [3]string{"p(a,3,x):4 p(a,3,y):2 p(b,3,x):3", "p(a,3,x):4 p(a,3,y):2 p(b,3,x):3", "p(a,1,x):4 p(a,1,y):2 p(b,1,x):3"})
	// What comes out may be the same as a row that went in.
	groups(t, 1, "p(a,1):1 p(a,2):3", [3]string{"p(a,1):3", "p(a,2):3", "p(a,2):3"})
}

// TestNamesG1: rows of one Name with unlike numbers of Args, and of unlike Names with the same Args, are no set.
func TestNamesG1(t *testing.T) {
	groups(t, 1, "p(a,3):4 p(a,5,5):2 p(a,1):3 p(a,7,5):1", [3]string{"p(a,1):4 p(a,5,5):2", "p(a,3):4 p(a,7,5):2", "p(a,2):4 p(a,2,5):2"})
	groups(t, 1, "p(a,3,b):1 p(a,5,b,c):2 p(a,4,b):3 p(a,6):4", [3]string{"p(a,3,b):3 p(a,5,b,c):2 p(a,6):4", "p(a,4,b):3 p(a,5,b,c):2 p(a,6):4", "p(a,1):4 p(a,1,b,c):2 p(a,2,b):3"})
	groups(t, 1, "p(a,3):4 q(a,3):2 pp(a,5):9 p(a,5):1 q(a,4):1 p_(a,3):3", [3]string{"p(a,3):4 p_(a,3):3 pp(a,5):9 q(a,3):2", "p(a,5):4 p_(a,3):3 pp(a,5):9 q(a,4):2", "p(a,2):4 p_(a,1):3 pp(a,1):9 q(a,2):2"})
	// Names need not be right: byte by byte.
	names := []string{"", "\x00", "A", "P", "p", "p\x00", "p\x00\x01", "\xc3", "\xc3\xa9", "\xfe", "\xff", "\uFFFD"}
	slices.Sort(names)
	var l []api.Row
	for i, name := range names {
		l = append(l, api.Row{Name: name, Args: []api.Value{addr("a"), num(i)}, Stamp: i}, api.Row{Name: name, Args: []api.Value{addr("a"), num(i + 100)}, Stamp: -i})
	}
	slices.Reverse(l)
	got := Group("max", 1, l)
	if len(got) != len(names) {
		t.Fatal(got)
	}
	for i, r := range got {
		if !sameRows([]api.Row{r}, []api.Row{{Name: names[i], Args: []api.Value{addr("a"), num(i + 100)}, Stamp: i}}) {
			t.Errorf("%q: %v", names[i], r)
		}
	}
}

// TestStampsG1: the greatest one of a set, whichever row has it.
func TestStampsG1(t *testing.T) {
	groups(t, 1, "p(a,3):-4 p(a,5):-2", [3]string{"p(a,3):-2", "p(a,5):-2", "p(a,2):-2"})
	groups(t, 1, "p(a,3):-4 p(a,5):0", [3]string{"p(a,3):0", "p(a,5):0", "p(a,2):0"})
	groups(t, 1, "p(a,3):forever p(a,5):2 p(b,3):1", [3]string{"p(a,3):forever p(b,3):1", "p(a,5):forever p(b,3):1", "p(a,2):forever p(b,1):1"})
	groups(t, 1, "p(a,3):forever p(a,5):1099511627777", [3]string{"p(a,3):1099511627777", "p(a,5):1099511627777", "p(a,2):1099511627777"})
	groups(t, 1, "p(a,3):-9223372036854775808 p(a,5):-9223372036854775807", [3]string{"p(a,3):-9223372036854775807", "p(a,5):-9223372036854775807", "p(a,2):-9223372036854775807"})
	groups(t, 1, "p(a,3):9223372036854775807 p(a,5):-9223372036854775808", [3]string{"p(a,3):9223372036854775807", "p(a,5):9223372036854775807", "p(a,2):9223372036854775807"})
	// At a row that is neither the least nor the greatest.
	groups(t, 1, "p(a,3):1 p(a,4):9 p(a,5):2", [3]string{"p(a,3):9", "p(a,5):9", "p(a,3):9"})
	groups(t, 1, "p(a,3):-7 p(a,4):-9 p(a,x):-1 p(a,[]):-3 p(a,6):-2", [3]string{"p(a,3):-1", "p(a,[]):-1", "p(a,5):-1"})
	groups(t, 2, "p(a,b,1):1 p(a,b,2):forever p(a,b,3):1 p(a,c,2):5", [3]string{"p(a,b,1):forever p(a,c,2):5", "p(a,b,3):forever p(a,c,2):5", "p(a,b,3):forever p(a,c,1):5"})
}

// TestOrderG1: rising by chapter 10's Compare, of what comes out, not of what went in.
func TestOrderG1(t *testing.T) {
	groups(t, 1, "p(a,1,z):1 p(a,9,z):2 p(a,5,b):3 p(a,8,b):4", [3]string{"p(a,1,z):2 p(a,5,b):4", "p(a,8,b):4 p(a,9,z):2", "p(a,2,b):4 p(a,2,z):2"})
	groups(t, 1, "p(a,1,b):1 p(a,2,b):1 p(a,3,b):1 p(a,7,c):1 p(a,8,c):1 p(a,0,d):1", [3]string{"p(a,0,d):1 p(a,1,b):1 p(a,7,c):1", "p(a,0,d):1 p(a,3,b):1 p(a,8,c):1", "p(a,1,d):1 p(a,2,c):1 p(a,3,b):1"})
	groups(t, 1, "p(b,1):1 p(a,2):1 pa(a,0):1 p(a,0,0):1 o(z,9):1 p([],1):1 p(7,1):1", [3]string{"o(z,9):1 p(7,1):1 p(a,0,0):1 p(a,2):1 p(b,1):1 p([],1):1 pa(a,0):1", "o(z,9):1 p(7,1):1 p(a,0,0):1 p(a,2):1 p(b,1):1 p([],1):1 pa(a,0):1", "o(z,1):1 p(7,1):1 p(a,1):1 p(a,1,0):1 p(b,1):1 p([],1):1 pa(a,1):1"})
}

// TestManyG1: as many rows as come, in one set and in many, with as many Args as there are.
func TestManyG1(t *testing.T) {
	const n = 4000
	var one, many []api.Row
	for i := range n {
		k := i * 7919 % n
		one = append(one, api.Row{Name: "p", Args: []api.Value{addr("a"), num(k)}, Stamp: k % 1000})
		many = append(many, api.Row{Name: "p", Args: []api.Value{addr("a"), num(k % 2), num(k / 2)}, Stamp: k})
	}
	for agg, want := range map[string]int{"min": 0, "max": n - 1, "count": n} {
		if got := telling(Group(agg, 1, one)); got != "p(a,"+strconv.Itoa(want)+"):999" {
			t.Error(agg, "of one set:", got)
		}
		if got := Group(agg, 1, many); len(got) != n/2 || !sameRows(got, groupedRows(agg, 1, many)) {
			t.Error(agg, "of many sets:", len(got))
		}
	}
	long := api.Row{Name: strings.Repeat("p", n), Args: slices.Repeat([]api.Value{num(1)}, n), Stamp: 1}
	other := api.Row{Name: long.Name, Args: slices.Clone(long.Args), Stamp: 2}
	other.Args[n-1] = num(2)
	want := api.Row{Name: long.Name, Args: other.Args, Stamp: 2}
	for _, at := range []int{1, n / 2, n - 1} {
		if got := Group("max", at, []api.Row{long, other, long}); len(got) != 1+min(1, n-1-at) || !sameRows(got[len(got)-1:], []api.Row{want}) {
			t.Error("rows of many Args:", at, len(got))
		}
	}
}

// wrongs are values that are not right.
func wrongs() []api.Value {
	deep := num(1)
	for range 1 << 15 {
		deep = list(deep)
	}
	return []api.Value{
		{}, {Kind: -1}, {Kind: 5}, {Kind: 5, Int: 1}, {Kind: 1 << 62, Text: "x", List: []api.Value{num(1)}}, num(1 << 31), num(-1 << 63), num(1<<63 - 1), addr(""), addr("A"), {Kind: api.Text, Text: "\xff"}, {Kind: api.Text, Text: strings.Repeat("x", 1<<16)},
		{Kind: api.Int, Int: 1, Text: "x"}, {Kind: api.Int, Int: 1, List: []api.Value{num(2)}}, {Kind: api.Addr, Text: "a", Int: 2}, {Kind: api.List, Text: "a", Int: 2}, deep, list(slices.Repeat([]api.Value{num(1)}, 1<<12)...), list(api.Value{}), list(api.Value{Kind: 9}),
	}
}

// TestWrongValuesEnd: of rows with values that are not right, wherever they stand, calls end.
func TestWrongValuesEnd(t *testing.T) {
	var l []api.Row
	for _, x := range wrongs() {
		for _, args := range [][]api.Value{{x}, {x, num(1)}, {addr("a"), x}, {addr("a"), num(1), x}, {addr("a"), x, num(1)}, {x, x, x}} {
			l = append(l, api.Row{Name: "p", Args: args, Stamp: len(l)})
		}
	}
	l = append(l, rowsOf(t, "p(a,1):3 p(a,2,2):4 p(a):5")...)
	for _, agg := range []string{"min", "max", "count", "", "sum"} {
		for at := -1; at < 4; at++ {
			Group(agg, at, l)
			r := ruleOf(t, "best(@S,X,Y) :- p(@S,X,Y)")
			r.Agg, r.At = agg, at
			Rule(r, l)
		}
	}
}

const known = "l(a,b,3):4 l(a,b,1):2 l(a,c,7):6 l(b,b,1):5 l(b,c,2):1 l(b,c,9):3 l(a,b,1):3"

func TestRuleG2(t *testing.T) {
	l := rowsOf(t, known)
	for s, want := range map[string]string{
		"best(@S,D,C) :- l(@S,D,C)":                     "best(a,b,1):3 best(a,b,3):4 best(a,c,7):6 best(b,b,1):5 best(b,c,2):1 best(b,c,9):3",
		"best(@S,D,min<C>) :- l(@S,D,C)":                "best(a,b,1):4 best(a,c,7):6 best(b,b,1):5 best(b,c,2):3",
		"best(@S,D,max<C>) :- l(@S,D,C)":                "best(a,b,3):4 best(a,c,7):6 best(b,b,1):5 best(b,c,9):3",
		"best(@S,D,count<C>) :- l(@S,D,C)":              "best(a,b,2):4 best(a,c,1):6 best(b,b,1):5 best(b,c,2):3",
		"best(@S,min<C>) :- l(@S,D,C)":                  "best(a,1):6 best(b,1):5",
		"best(@S,max<C>) :- l(@S,D,C)":                  "best(a,7):6 best(b,9):5",
		"best(@S,count<D>) :- l(@S,D,C)":                "best(a,2):6 best(b,2):5",
		"best(@S,count<C>) :- l(@S,D,C)":                "best(a,3):6 best(b,3):5",
		"best(@S,min<D>,C) :- l(@S,D,C)":                "best(a,b,1):3 best(a,b,3):4 best(a,c,7):6 best(b,b,1):5 best(b,c,2):1 best(b,c,9):3",
		"best(@S,max<D>,(C*0)) :- l(@S,D,C)":            "best(a,c,0):6 best(b,c,0):5",
		"best(@D,max<S>) :- l(@S,D,C)":                  "best(b,b):5 best(c,b):6",
		"best(@S,D,max<X>) :- l(@S,D,C), X := (C+1)":    "best(a,b,4):4 best(a,c,8):6 best(b,b,2):5 best(b,c,10):3",
		"best(@S,count<X>) :- l(@S,D,C), X := (C*0)":    "best(a,1):6 best(b,1):5",
		"l(@S,D,min<C>) :- l(@S,D,C), C > 1":            "l(a,b,3):4 l(a,c,7):6 l(b,c,2):3",
		"best(@S,count<C>) :- l(@S,D,C), !l(@D,D,1)":    "best(a,1):6 best(b,2):3",
		"best(@S,min<C>) :- l(@S,D,C), l(@D,E,K)":       "best(a,1):4 best(b,1):5",
		"best(@S,count<D>) :- none(@S,D)":               "",
		"best(@S,D) :- none(@S,D)":                      "",
		"best(@S,min<X>) :- X := 1, l(@S,D,C), C == 99": "",
		"best(@z,D,min<C>) :- l(@S,D,C)":                "best(z,b,1):5 best(z,c,2):6",
	} {
		r := ruleOf(t, s)
		if got := telling(Rule(r, l)); got != want {
			t.Errorf("%s: %s, not %s", s, got, want)
		}
		fired := fire.Fire(r, l)
		if r.Agg != "" {
			fired = Group(r.Agg, r.At, fired)
		}
		if got := telling(fired); got != want {
			t.Errorf("%s, by Fire and Group: %s, not %s", s, got, want)
		}
	}
}

// TestAggAndAtG2: whatever stands in Agg and At of a rule, right or not.
func TestAggAndAtG2(t *testing.T) {
	l := rowsOf(t, known)
	r := ruleOf(t, "best(@S,D,C) :- l(@S,D,C)")
	all := fire.Fire(r, l)
	for _, r.Agg = range []string{"", "min", "max", "count", "sum", "Min", " ", "\xff"} {
		for _, r.At = range []int{-1 << 63, -1, 0, 1, 2, 3, 4, 1<<63 - 1} {
			want := all
			if r.Agg != "" {
				want = groupedRows(r.Agg, r.At, all)
			}
			if got := Rule(r, l); !sameRows(got, want) {
				t.Errorf("%q at %d: %s, not %s", r.Agg, r.At, telling(got), telling(want))
			}
		}
	}
	// A rule of nothing, and one of a head alone.
	for _, r := range []api.Rule{{}, {Head: "p", Args: r.Args}, {Head: "p", Agg: "count", At: 1}, {Agg: "min"}} {
		want := fire.Fire(r, l)
		if r.Agg != "" {
			want = nil
		}
		if got := Rule(r, l); !sameRows(got, want) {
			t.Errorf("%v: %v", r, got)
		}
	}
	lone := api.Rule{Head: "p", Args: []api.Term{{Kind: api.TermValue, Value: addr("a")}, {Kind: api.TermValue, Value: list()}}, Agg: "count", At: 1}
	if got := telling(Rule(lone, nil)); got != "p(a,1):forever" {
		t.Error(got)
	}
}

// TestDrawnG1 holds Group against G1 told another way.
func TestDrawnG1(t *testing.T) {
	d := &drawer{seed: 21}
	some, fewer := 0, 0
	for range 4000 {
		l := d.rows(t, 14)
		for _, agg := range []string{"min", "max", "count", "sum"} {
			for at := -1; at < 5; at++ {
				got := Group(agg, at, l)
				if want := groupedRows(agg, at, l); !sameRows(got, want) {
					t.Fatalf("%s at %d of %s: %s, not %s", agg, at, telling(l), telling(got), telling(want))
				}
				some += min(1, len(got))
				if len(got) < len(inWay(having(at, l))) {
					fewer++
				}
			}
		}
	}
	if some < 20000 || fewer < 10000 {
		t.Error("too few:", some, fewer)
	}
}

// TestDrawnG2 holds Rule against Fire, and against Group of that, for drawn rules.
func TestDrawnG2(t *testing.T) {
	d := &drawer{seed: 22}
	some, grouped := 0, 0
	for range 6000 {
		r, l := d.rule(t), d.rows(t, 24)
		fired := fire.Fire(r, l)
		want := fired
		if r.Agg != "" {
			want = groupedRows(r.Agg, r.At, fired)
		}
		got := Rule(r, l)
		if !sameRows(got, want) || r.Agg != "" && !sameRows(got, Group(r.Agg, r.At, fired)) {
			t.Fatalf("%v of %s: %s, not %s", r, telling(l), telling(got), telling(want))
		}
		some += min(1, len(got))
		if len(got) > 0 && len(got) < len(fired) {
			grouped++
		}
	}
	if some < 1500 || grouped < 300 {
		t.Error("too few:", some, grouped)
	}
}
