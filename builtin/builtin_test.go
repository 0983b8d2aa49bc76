package builtin

import (
	"reflect"
	"slices"
	"strings"
	"testing"

	"beaconry/api"
	"beaconry/value"
)

const most = 1<<31 - 1

// unary and binary are all functions' names.
func unary() []string { return []string{"f_size", "f_first", "f_last", "f_rest", "f_reverse"} }

func binary() []string { return []string{"f_cons", "f_append", "f_concat", "f_member"} }

// listPlaces tells at which of its arguments a function must have a list.
func listPlaces() map[string][]int {
	return map[string][]int{
		"f_cons": {1}, "f_append": {0}, "f_concat": {0, 1}, "f_member": {0},
		"f_size": {0}, "f_first": {0}, "f_last": {0}, "f_rest": {0}, "f_reverse": {0},
	}
}

func num(n int) api.Value { return api.Value{Kind: api.Int, Int: n} }

func text(s string) api.Value { return api.Value{Kind: api.Text, Text: s} }

func addr(s string) api.Value { return api.Value{Kind: api.Addr, Text: s} }

func list(l ...api.Value) api.Value { return api.Value{Kind: api.List, List: l} }

// upto is the list of the numbers from a on up to b.
func upto(a, b int) api.Value {
	v := list()
	for n := a; n <= b; n++ {
		v.List = append(v.List, num(n))
	}
	return v
}

// nest is a list of that depth.
func nest(depth int) api.Value {
	v := list()
	for range depth - 1 {
		v = list(v)
	}
	return v
}

// same tells whether two values are the same, lists without elements being alike.
func same(a, b api.Value) bool {
	return a.Kind == b.Kind && a.Int == b.Int && a.Text == b.Text && slices.EqualFunc(a.List, b.List, same)
}

// wrongs are values that are not right.
func wrongs() []api.Value {
	return []api.Value{
		{}, {Kind: 5}, {Kind: -1}, num(most + 1), num(-most - 1), num(1<<63 - 1), num(-1 << 63), text(`"`), text("\n"), text("\xff"), text(strings.Repeat("x", 33)), addr(""), addr("A"), addr("1"), addr(strings.Repeat("a", 17)),
		{Kind: api.Int, Text: "a"}, {Kind: api.Int, List: []api.Value{num(1)}}, {Kind: api.Text, Int: 1}, {Kind: api.List, Int: 1}, {Kind: api.List, Text: "a", List: []api.Value{num(1)}},
		upto(1, 17), nest(5), nest(1 << 16), list(api.Value{}), list(num(1), num(most+1)), list(num(1), upto(1, 17)), list(num(1), list(list(list(list())))), cycle(),
	}
}

// cycle is a list that holds itself.
func cycle() api.Value {
	l := make([]api.Value, 1)
	l[0] = list(l...)
	return l[0]
}

// call asks for a right value, as a call gives it.
func call(t *testing.T, name string, args ...api.Value) api.Value {
	t.Helper()
	v, ok := Call(name, args)
	if !ok || !value.Right(v) {
		t.Fatalf("%s of %v: %v %v", name, args, v, ok)
	}
	return v
}

// refused asks for nothing and false.
func refused(t *testing.T, name string, args ...api.Value) {
	t.Helper()
	if v, ok := Call(name, args); ok || !reflect.DeepEqual(v, api.Value{}) {
		t.Errorf("%s of %d arguments: %v %v, not nothing and false", name, len(args), v, ok)
	}
}

func TestArityB1(t *testing.T) {
	for _, name := range unary() {
		if got := Arity(name); got != 1 {
			t.Errorf("Arity(%q): %d", name, got)
		}
	}
	for _, name := range binary() {
		if got := Arity(name); got != 2 {
			t.Errorf("Arity(%q): %d", name, got)
		}
	}
	for _, name := range noFunctions() {
		if got := Arity(name); got != -1 {
			t.Errorf("Arity(%q): %d", name, got)
		}
	}
}

func noFunctions() []string {
	return []string{"", "f", "f_", "f_con", "f_conss", "f_cons ", " f_cons", "F_CONS", "f_Size", "cons", "size", "f-size", "f_size\x00", "f_none", "f_min", "+", "==", "min", "\xff", strings.Repeat("f_size", 1000)}
}

func TestCallB2(t *testing.T) {
	a, b := addr("a"), text("b")
	for _, x := range []struct {
		name string
		args []api.Value
		want api.Value
	}{
		{"f_cons", []api.Value{num(1), list(num(2))}, list(num(1), num(2))},
		{"f_cons", []api.Value{a, list()}, list(a)},
		{"f_cons", []api.Value{list(), list()}, list(list())},
		{"f_cons", []api.Value{list(num(1)), list(num(2))}, list(list(num(1)), num(2))},
		{"f_append", []api.Value{list(num(2)), num(1)}, list(num(2), num(1))},
		{"f_append", []api.Value{list(), b}, list(b)},
		{"f_append", []api.Value{list(), list()}, list(list())},
		{"f_append", []api.Value{list(num(1)), list(num(2))}, list(num(1), list(num(2)))},
		{"f_concat", []api.Value{list(a, b), list(num(3), a)}, list(a, b, num(3), a)},
		{"f_concat", []api.Value{list(), list()}, list()},
		{"f_concat", []api.Value{list(), list(a)}, list(a)},
		{"f_concat", []api.Value{list(a), list()}, list(a)},
		{"f_concat", []api.Value{list(list()), list(list(a))}, list(list(), list(a))},
		{"f_member", []api.Value{list(num(1), num(2)), num(1)}, num(1)},
		{"f_member", []api.Value{list(num(1), num(2)), num(2)}, num(1)},
		{"f_member", []api.Value{list(num(2), num(2), num(2)), num(2)}, num(1)},
		{"f_member", []api.Value{list(num(1), num(2)), num(3)}, num(0)},
		{"f_member", []api.Value{list(), num(0)}, num(0)},
		{"f_member", []api.Value{list(), list()}, num(0)},
		{"f_member", []api.Value{list(list()), list()}, num(1)},
		{"f_member", []api.Value{list(api.Value{Kind: api.List}), {Kind: api.List, List: []api.Value{}}}, num(1)},
		{"f_member", []api.Value{list(list(num(1)), list(a, b)), list(a, b)}, num(1)},
		{"f_member", []api.Value{list(list(num(1)), list(a, b)), list(a)}, num(0)},
		{"f_member", []api.Value{list(list(num(1))), num(1)}, num(0)},
		{"f_member", []api.Value{list(text("a")), a}, num(0)},
		{"f_member", []api.Value{list(text("1")), num(1)}, num(0)},
		{"f_size", []api.Value{list()}, num(0)},
		{"f_size", []api.Value{list(list(a, b, a))}, num(1)},
		{"f_size", []api.Value{list(a, a, a)}, num(3)},
		{"f_first", []api.Value{list(a, b, num(3))}, a},
		{"f_first", []api.Value{list(list(b), a)}, list(b)},
		{"f_last", []api.Value{list(a, b, num(3))}, num(3)},
		{"f_last", []api.Value{list(a, list())}, list()},
		{"f_first", []api.Value{list(a)}, a},
		{"f_last", []api.Value{list(b)}, b},
		{"f_rest", []api.Value{list(a, b, num(3))}, list(b, num(3))},
		{"f_rest", []api.Value{list(a)}, list()},
		{"f_reverse", []api.Value{list(a, b, num(3))}, list(num(3), b, a)},
		{"f_reverse", []api.Value{list(list(a, b), num(1))}, list(num(1), list(a, b))},
		{"f_reverse", []api.Value{list(a)}, list(a)},
		{"f_reverse", []api.Value{list()}, list()},
	} {
		if got, ok := Call(x.name, x.args); !ok || !same(got, x.want) {
			t.Errorf("%s of %v: %v %v, not %v", x.name, x.args, got, ok, x.want)
		}
	}
	for _, name := range []string{"f_first", "f_last", "f_rest"} {
		refused(t, name, list())
		refused(t, name, api.Value{Kind: api.List, List: []api.Value{}})
	}
}

// TestLengthB2: lists of 16 elements, and what would make one longer.
func TestLengthB2(t *testing.T) {
	full := upto(1, 16)
	for _, x := range []struct {
		name string
		args []api.Value
		want api.Value
	}{
		{"f_cons", []api.Value{num(1), upto(2, 16)}, full},
		{"f_append", []api.Value{upto(1, 15), num(16)}, full},
		{"f_concat", []api.Value{upto(1, 8), upto(9, 16)}, full},
		{"f_concat", []api.Value{full, list()}, full},
		{"f_concat", []api.Value{list(), full}, full},
		{"f_cons", []api.Value{full, list()}, list(full)},
		{"f_append", []api.Value{list(), full}, list(full)},
		{"f_member", []api.Value{full, num(16)}, num(1)},
		{"f_member", []api.Value{full, num(17)}, num(0)},
		{"f_size", []api.Value{full}, num(16)},
		{"f_first", []api.Value{full}, num(1)},
		{"f_last", []api.Value{full}, num(16)},
		{"f_rest", []api.Value{full}, upto(2, 16)},
	} {
		if got := call(t, x.name, x.args...); !same(got, x.want) {
			t.Errorf("%s: %v, not %v", x.name, got, x.want)
		}
	}
	back := call(t, "f_reverse", full)
	for i, v := range back.List {
		if v.Int != 16-i {
			t.Errorf("f_reverse: element %d is %v", i, v)
		}
	}
	refused(t, "f_cons", num(0), full)
	refused(t, "f_append", full, num(17))
	refused(t, "f_concat", upto(1, 9), upto(1, 8))
	refused(t, "f_concat", upto(1, 8), upto(1, 9))
	refused(t, "f_concat", full, list(num(1)))
	refused(t, "f_concat", list(num(1)), full)
	refused(t, "f_concat", full, full)
}

// TestDepthB2: lists of depth 4, and what would make one deeper.
func TestDepthB2(t *testing.T) {
	for _, x := range []struct {
		name string
		args []api.Value
		want api.Value
	}{
		{"f_cons", []api.Value{nest(3), list()}, nest(4)},
		{"f_append", []api.Value{list(), nest(3)}, nest(4)},
		{"f_cons", []api.Value{num(1), nest(4)}, list(num(1), nest(3))},
		{"f_append", []api.Value{nest(4), num(1)}, list(nest(3), num(1))},
		{"f_concat", []api.Value{nest(4), nest(4)}, list(nest(3), nest(3))},
		{"f_member", []api.Value{nest(4), nest(3)}, num(1)},
		{"f_member", []api.Value{nest(4), nest(4)}, num(0)},
		{"f_first", []api.Value{nest(4)}, nest(3)},
		{"f_last", []api.Value{nest(4)}, nest(3)},
		{"f_rest", []api.Value{nest(4)}, list()},
		{"f_reverse", []api.Value{nest(4)}, nest(4)},
		{"f_size", []api.Value{nest(4)}, num(1)},
	} {
		if got := call(t, x.name, x.args...); !same(got, x.want) {
			t.Errorf("%s: %v, not %v", x.name, got, x.want)
		}
	}
	refused(t, "f_cons", nest(4), list())
	refused(t, "f_cons", nest(4), upto(1, 3))
	refused(t, "f_append", list(), nest(4))
	refused(t, "f_append", upto(1, 3), nest(4))
}

func TestNamesAndCountsB2(t *testing.T) {
	for _, name := range noFunctions() {
		for n := range 4 {
			refused(t, name, slices.Repeat([]api.Value{list(num(1))}, n)...)
		}
	}
	for _, n := range []int{0, 2, 3, 1000} {
		for _, name := range unary() {
			refused(t, name, slices.Repeat([]api.Value{list(num(1))}, n)...)
		}
	}
	for _, n := range []int{0, 1, 3, 1000} {
		for _, name := range binary() {
			refused(t, name, slices.Repeat([]api.Value{list(num(1))}, n)...)
		}
	}
}

func TestWrongArgumentsB2(t *testing.T) {
	good := list(num(1), num(2))
	for name, places := range listPlaces() {
		for place := range Arity(name) {
			args := slices.Repeat([]api.Value{good}, Arity(name))
			for _, v := range wrongs() {
				args[place] = v
				refused(t, name, args...)
			}
			for _, v := range []api.Value{num(0), num(1), text(""), text("ab"), addr("a")} {
				args[place] = v
				if slices.Contains(places, place) {
					refused(t, name, args...)
				} else {
					call(t, name, args...)
				}
			}
		}
	}
	// What would come out is right here, what goes in is not.
	refused(t, "f_rest", upto(1, 17))
	refused(t, "f_size", upto(1, 17))
	refused(t, "f_first", nest(5))
	refused(t, "f_rest", list(api.Value{}, num(1)))
	refused(t, "f_member", list(num(1)), num(most+1))
}

func TestOpB3(t *testing.T) {
	edges := []int{0, 1, -1, 2, -2, 3, 7, 46340, -46340, 46341, -46341, 1 << 15, 1 << 16, -1 << 16, 1 << 30, -1 << 30, 1<<30 + 1, most - 1, 1 - most, most, -most}
	for _, a := range edges {
		for _, b := range edges {
			for op, n := range map[string]int{"+": a + b, "-": a - b, "*": a * b} {
				want, is := num(n), n >= -most && n <= most
				if !is {
					want = api.Value{}
				}
				if got, ok := Op(op, num(a), num(b)); ok != is || !same(got, want) {
					t.Errorf("%d %s %d: %v %v, not %v", a, op, b, got, ok, want)
				}
			}
		}
	}
}

// TestOpEdgesB3: the last result to either side, and one beyond it.
func TestOpEdgesB3(t *testing.T) {
	for _, x := range []struct {
		op   string
		a, b int
		want string
	}{
		{"+", most, 0, "2147483647"}, {"+", most - 1, 1, "2147483647"}, {"+", most, 1, ""}, {"+", 1, most, ""}, {"+", most, most, ""}, {"+", -most, -1, ""}, {"+", 1 - most, -1, "-2147483647"}, {"+", -most, -most, ""}, {"+", most, -most, "0"},
		{"-", -most, 0, "-2147483647"}, {"-", 1 - most, 1, "-2147483647"}, {"-", -most, 1, ""}, {"-", most - 1, -1, "2147483647"}, {"-", most, -1, ""}, {"-", 0, most, "-2147483647"}, {"-", -1, most, ""}, {"-", most, -most, ""}, {"-", most, most, "0"}, {"-", 2, 5, "-3"},
		{"*", most, 1, "2147483647"}, {"*", most, -1, "-2147483647"}, {"*", -most, -1, "2147483647"}, {"*", 1 << 30, 2, ""}, {"*", 1 << 30, -2, ""}, {"*", 1<<30 - 1, 2, "2147483646"}, {"*", 1 << 16, 1 << 15, ""}, {"*", most, most, ""}, {"*", most, -most, ""}, {"*", most, 2, ""}, {"*", most, 0, "0"}, {"*", -most, 0, "0"},
	} {
		if v, ok := Op(x.op, num(x.a), num(x.b)); value.Print(v) != x.want || ok != (x.want != "") {
			t.Errorf("%d %s %d: %v %v, not %s", x.a, x.op, x.b, v, ok, x.want)
		}
	}
}

func TestWrongOpB3(t *testing.T) {
	none := func(op string, a, b api.Value) {
		t.Helper()
		if v, ok := Op(op, a, b); ok || !reflect.DeepEqual(v, api.Value{}) {
			t.Errorf("%q: %v %v, not nothing and false", op, v, ok)
		}
	}
	for _, op := range []string{"", "/", "%", "++", "+-", " +", "+ ", "**", "^", "==", "<", "f_cons", "f_size", "\xff"} {
		none(op, num(4), num(2))
		none(op, num(0), num(0))
	}
	for _, op := range []string{"+", "-", "*"} {
		for _, v := range append(wrongs(), text(""), text("1"), addr("a"), list(), list(num(1)), api.Value{Kind: api.Text}) {
			none(op, v, num(0))
			none(op, num(0), v)
			none(op, v, v)
		}
	}
}

// TestOpEmptyLists: a right number may have a list without elements; what comes out doesn't share it.
func TestOpEmptyLists(t *testing.T) {
	a := num(2)
	a.List = make([]api.Value, 0, 4)
	v, ok := Op("+", a, num(0))
	if !ok || !same(v, num(2)) {
		t.Fatal(v, ok)
	}
	_ = append(v.List, num(9))
	if !same(a.List[:1][0], api.Value{}) {
		t.Error("the argument's spare room was handed out")
	}
}

func TestTestB4(t *testing.T) {
	rising := []api.Value{
		num(-most), num(-1), num(0), num(9), num(10), num(most), text(""), text(" "), text("10"), text("9"), text("a"), text("ab"), text("b"), addr("a"), addr("a0"), addr("ab"), addr("b"),
		list(), list(num(1)), list(num(1), num(0)), list(num(1), text("")), list(num(2)), list(addr("a")), nest(2), nest(3), nest(4),
	}
	for i, a := range rising {
		for k, b := range rising {
			for op, want := range map[string]bool{"==": i == k, "!=": i != k, "<": i < k, "<=": i <= k, ">": i > k, ">=": i >= k} {
				if Test(op, a, b) != want {
					t.Errorf("%s %s %s is not %v", value.Print(a), op, value.Print(b), want)
				}
			}
			for _, op := range []string{"", "=", "<>", "===", "=<", "=>", "!", "< ", " ==", "+", "f_member", "\xff"} {
				if Test(op, a, b) {
					t.Errorf("there is no op %q", op)
				}
			}
		}
	}
}

func TestWrongTestB4(t *testing.T) {
	for _, op := range []string{"==", "!=", "<", "<=", ">", ">="} {
		for _, v := range wrongs() {
			for _, w := range []api.Value{num(0), text("a"), addr("a"), list(), list(num(1))} {
				if Test(op, v, w) || Test(op, w, v) {
					t.Errorf("%s of what is not right", op)
				}
			}
			if Test(op, v, v) {
				t.Errorf("%s of what is not right, twice", op)
			}
		}
	}
}

// drawer draws right values out of few parts, so that sames, empty and full lists are among them.
type drawer struct{ seed uint32 }

func (d *drawer) below(k int) int {
	d.seed = d.seed*1664525 + 1013904223
	return int(d.seed>>16) % k
}

func (d *drawer) value(depth int) api.Value {
	texts := []string{"a", "ab", "b", "a_1"}
	switch k := d.below(6); {
	case k < 2 || depth < 1 && k > 3:
		return num(d.below(4) - 1)
	case k == 2:
		return text(texts[d.below(4)])
	case k == 3:
		return addr(texts[d.below(4)])
	}
	return d.list(depth)
}

func (d *drawer) list(depth int) api.Value {
	lengths := []int{0, 1, 2, 3, 7, 8, 9, 15, 16}
	v := list()
	for range lengths[d.below(9-5*min(1, 4-depth))] {
		v.List = append(v.List, d.value(depth-1))
	}
	return v
}

func TestListsB5(t *testing.T) {
	d := &drawer{seed: 1}
	made := 0
	for range 3000 {
		x, l := d.value(4), d.list(4)
		v, ok := Call("f_cons", []api.Value{x, l})
		w, ok2 := Call("f_append", []api.Value{l, x})
		if ok != value.Right(list(append([]api.Value{x}, l.List...)...)) || ok2 != ok {
			t.Fatalf("f_cons and f_append of %v and %v: %v and %v", x, l, ok, ok2)
		}
		if ok {
			made++
			if !same(call(t, "f_first", v), x) || !same(call(t, "f_rest", v), l) || !same(call(t, "f_last", w), x) {
				t.Fatalf("%v and %v do not come out again", x, l)
			}
			if n := call(t, "f_size", v); n.Int != len(l.List)+1 {
				t.Fatalf("the size is %d", n.Int)
			}
		}
		if back := call(t, "f_reverse", l); !same(call(t, "f_reverse", back), l) {
			t.Fatalf("f_reverse of %v is not undone", l)
		}
	}
	if made < 500 || made > 2900 {
		t.Fatalf("%d drawn lists are too few of one kind", made)
	}
}

func TestConcatB5(t *testing.T) {
	d := &drawer{seed: 2}
	made, members := 0, 0
	for range 3000 {
		l, m, x := d.list(4), d.list(4), d.value(1)
		v, ok := Call("f_concat", []api.Value{l, m})
		if ok != (len(l.List)+len(m.List) <= 16) || ok != value.Right(v) {
			t.Fatalf("f_concat of %v and %v: %v %v", l, m, v, ok)
		}
		if !ok {
			continue
		}
		made++
		if call(t, "f_size", v).Int != call(t, "f_size", l).Int+call(t, "f_size", m).Int {
			t.Fatal("sizes do not add up")
		}
		is := call(t, "f_member", v, x).Int
		if is != max(call(t, "f_member", l, x).Int, call(t, "f_member", m, x).Int) {
			t.Fatal("a member of neither, or none of either")
		}
		members += is
	}
	if made < 500 || made > 2900 || members < 100 || members > made-100 {
		t.Fatalf("%d drawn lists, %d members: too few of one kind", made, members)
	}
}

func TestReckoningB5(t *testing.T) {
	d := &drawer{seed: 3}
	drawn := func() api.Value { return num((d.below(1<<16)<<16|d.below(1<<16))%(2*most+1) - most) }
	undone := 0
	for range 5000 {
		a, b := drawn(), drawn()
		for op, back := range map[string]string{"+": "-", "-": "+"} {
			v, ok := Op(op, a, b)
			if !ok {
				continue
			}
			undone++
			if w, ok := Op(back, v, b); !value.Right(v) || !ok || !same(w, a) {
				t.Fatalf("%d %s %d is not undone: %v %v", a.Int, op, b.Int, w, ok)
			}
		}
	}
	if undone < 1000 || undone > 9000 {
		t.Fatalf("%d undone ones are too few of one kind", undone)
	}
}

// scribble writes into all lists of a value, their spare room too.
func scribble(v api.Value) {
	l := v.List[:cap(v.List)]
	for i := range l {
		scribble(l[i])
		l[i] = text("written")
	}
}

// roomy is a copy whose lists, down to the elements', have spare room with a mark in it.
func roomy(v api.Value) api.Value {
	l := make([]api.Value, len(v.List), len(v.List)+2)
	for i, w := range v.List {
		l[i] = roomy(w)
	}
	room := l[:cap(l)]
	room[len(l)], room[len(l)+1] = addr("mark"), addr("mark")
	v.List = l
	return v
}

// deepSame holds spare room against each other, too.
func deepSame(a, b api.Value) bool {
	return a.Kind == b.Kind && a.Int == b.Int && a.Text == b.Text && len(a.List) == len(b.List) && slices.EqualFunc(a.List[:cap(a.List)], b.List[:cap(b.List)], deepSame)
}

// TestMemory: rule R3. No call writes into its arguments or keeps them, and what comes out is new, down to lists of lists.
func TestMemory(t *testing.T) {
	inner := list(num(1), list(num(2)))
	l, m := list(inner, num(3), list()), list(list(), inner)
	for name := range listPlaces() {
		for _, second := range []api.Value{m, inner} {
			given := func() []api.Value {
				args := []api.Value{roomy(l), roomy(second), roomy(l)}
				return args[:Arity(name)]
			}
			args, want := given(), given()
			v, w := call(t, name, args...), call(t, name, args...)
			if !deepSame(list(args[:cap(args)]...), list(want[:cap(want)]...)) {
				t.Fatalf("%s writes into its arguments", name)
			}
			before := value.Print(w)
			scribble(v)
			if !deepSame(list(args[:cap(args)]...), list(want[:cap(want)]...)) {
				t.Errorf("%s hands its arguments' memory out", name)
			}
			for _, a := range args {
				scribble(a)
			}
			args[0] = num(0)
			if value.Print(w) != before {
				t.Errorf("%s keeps memory: %s, not %s", name, value.Print(w), before)
			}
		}
	}
}

// TestListsOfOneAnswer: two lists of one answer share no memory, even where one argument stands for both.
func TestListsOfOneAnswer(t *testing.T) {
	l := roomy(list(list(num(1), list(num(2))), list()))
	for name, size := range map[string]int{"f_cons": 3, "f_append": 3, "f_concat": 4} {
		for i := range size {
			v, want := call(t, name, l, l), call(t, name, l, l)
			scribble(v.List[i])
			_ = append(v.List[i].List, num(0))
			for k := range size {
				if k != i && !same(v.List[k], want.List[k]) {
					t.Errorf("%s: element %d is written into as %d is", name, k, i)
				}
			}
		}
	}
}

// TestArgumentsStay: rule R3, of what Op and Test are given.
func TestArgumentsStay(t *testing.T) {
	made := func() []api.Value {
		return []api.Value{roomy(num(1)), roomy(list(num(1), list(text("a")))), roomy(list())}
	}
	in := made()
	for _, a := range in {
		for _, b := range in {
			for _, op := range []string{"+", "-", "*", "==", "!=", "<", "<=", ">", ">="} {
				Op(op, a, b)
				Test(op, a, b)
			}
		}
	}
	if !slices.EqualFunc(in, made(), deepSame) {
		t.Error("an argument was written into")
	}
}
