package value

import (
	"reflect"
	"slices"
	"strings"
	"testing"

	"beaconry/api"
)

// nest is a list of that depth.
func nest(depth int) api.Value {
	v := api.Value{Kind: api.List}
	for range depth - 1 {
		v = api.Value{Kind: api.List, List: []api.Value{v}}
	}
	return v
}

func listOf(l ...api.Value) api.Value { return api.Value{Kind: api.List, List: l} }

// same tells whether two values are the same, lists without elements being alike.
func same(a, b api.Value) bool {
	return a.Kind == b.Kind && a.Int == b.Int && a.Text == b.Text && slices.EqualFunc(a.List, b.List, same)
}

// rights are right values with their Prints, ordinary ones and the edges.
func rights() map[string]api.Value {
	every := make([]byte, 0, 95)
	for c := byte(32); c <= 126; c++ {
		if c != '"' && c != '\\' {
			every = append(every, c)
		}
	}
	out := map[string]api.Value{
		"0": {Kind: api.Int}, "7": {Kind: api.Int, Int: 7}, "-7": {Kind: api.Int, Int: -7}, "10": {Kind: api.Int, Int: 10},
		"2147483646":  {Kind: api.Int, Int: 1<<31 - 2},
		"2147483647":  {Kind: api.Int, Int: 1<<31 - 1},
		"-2147483647": {Kind: api.Int, Int: -(1<<31 - 1)},
		`""`:          {Kind: api.Text}, `"a"`: {Kind: api.Text, Text: "a"}, `"7"`: {Kind: api.Text, Text: "7"}, `" "`: {Kind: api.Text, Text: " "},
		`"~"`: {Kind: api.Text, Text: "~"}, `"[a,b]"`: {Kind: api.Text, Text: "[a,b]"}, `"Ab "`: {Kind: api.Text, Text: "Ab "},
		`"` + strings.Repeat("x", 32) + `"`: {Kind: api.Text, Text: strings.Repeat("x", 32)},
		"a":                                 {Kind: api.Addr, Text: "a"}, "n1": {Kind: api.Addr, Text: "n1"}, "z_": {Kind: api.Addr, Text: "z_"}, "a0123456789_bcyz": {Kind: api.Addr, Text: "a0123456789_bcyz"},
		"[]": nest(1), "[[]]": nest(2), "[[[[]]]]": nest(4), "[[],[]]": listOf(nest(1), nest(1)),
		`[3,"ab",n1]`:                               listOf(api.Value{Kind: api.Int, Int: 3}, api.Value{Kind: api.Text, Text: "ab"}, api.Value{Kind: api.Addr, Text: "n1"}),
		"[0" + strings.Repeat(",0", 15) + "]":       listOf(slices.Repeat([]api.Value{{Kind: api.Int}}, 16)...),
		"[[[[0" + strings.Repeat(",0", 15) + "]]]]": listOf(listOf(listOf(listOf(slices.Repeat([]api.Value{{Kind: api.Int}}, 16)...)))),
	}
	for len(every) > 0 {
		n := min(len(every), 31)
		out[`"`+string(every[:n])+`"`] = api.Value{Kind: api.Text, Text: string(every[:n])}
		every = every[n:]
	}
	return out
}

// wrongs are values that are not right, one fault each.
func wrongs() map[string]api.Value {
	out := map[string]api.Value{
		"no kind": {}, "kind 5": {Kind: 5}, "kind -1": {Kind: -1}, "kind beyond": {Kind: 1<<32 + 1},
		"number of text": {Kind: api.Text, Int: 1}, "number of address": {Kind: api.Addr, Text: "a", Int: 1}, "number of list": {Kind: api.List, Int: 1},
		"text of number": {Kind: api.Int, Text: "a"}, "text of list": {Kind: api.List, Text: "a"},
		"list of number": {Kind: api.Int, List: []api.Value{{Kind: api.Int}}}, "list of text": {Kind: api.Text, List: []api.Value{{Kind: api.Int}}},
		"list of address": {Kind: api.Addr, Text: "a", List: []api.Value{{Kind: api.Int}}},
		"great":           {Kind: api.Int, Int: 1 << 31}, "small": {Kind: api.Int, Int: -1 << 31}, "greatest": {Kind: api.Int, Int: 1<<63 - 1}, "smallest": {Kind: api.Int, Int: -1 << 63},
		"long text": {Kind: api.Text, Text: strings.Repeat("x", 33)},
		"quote":     {Kind: api.Text, Text: `a"`}, "backslash": {Kind: api.Text, Text: `\a`},
		"two-byte letter": {Kind: api.Text, Text: "aéb"}, "half a letter": {Kind: api.Text, Text: "a\xc3"}, "mark of a wrong byte": {Kind: api.Text, Text: "\uFFFD"},
		"no address": {Kind: api.Addr}, "long address": {Kind: api.Addr, Text: strings.Repeat("a", 17)}, "great letter": {Kind: api.Addr, Text: "aB"}, "digit ahead": {Kind: api.Addr, Text: "1a"},
		"17 elements":         listOf(slices.Repeat([]api.Value{{Kind: api.Int}}, 17)...),
		"wrong last element":  listOf(api.Value{Kind: api.Int}, api.Value{}),
		"wrong inner element": listOf(listOf(listOf(api.Value{Kind: api.Addr}))),
		"inner list too long": listOf(listOf(slices.Repeat([]api.Value{{Kind: api.Int}}, 17)...)),
		"depth 5":             nest(5), "depth 5 as last": listOf(nest(1), nest(4)), "very deep": nest(1 << 16),
	}
	for c := range 256 {
		if c < 32 || c > 126 {
			out["byte "+string([]byte{byte(c)})] = api.Value{Kind: api.Text, Text: string([]byte{byte(c)})}
		}
	}
	return out
}

func TestMakersV1(t *testing.T) {
	for _, n := range []int{0, 1, -1, 1<<31 - 1, 1 << 31, -1 << 31, 1<<63 - 1, -1 << 63} {
		if got := Number(n); !same(got, api.Value{Kind: 1, Int: n}) {
			t.Errorf("Number(%d): %v", n, got)
		}
	}
	for _, s := range []string{"", "a", "n1", `"`, "\xff", "é", strings.Repeat("x", 100)} {
		if got := Text(s); !same(got, api.Value{Kind: 2, Text: s}) {
			t.Errorf("Text(%q): %v", s, got)
		}
		if got := Addr(s); !same(got, api.Value{Kind: 3, Text: s}) {
			t.Errorf("Addr(%q): %v", s, got)
		}
	}
	all := slices.Concat(valuesOf(rights()), valuesOf(wrongs()))
	for _, l := range [][]api.Value{nil, {}, {Number(1)}, {Text("a"), Addr("a"), nest(3)}, {{}}, all} {
		if got := List(l); !same(got, api.Value{Kind: 4, List: l}) {
			t.Errorf("List of %d: other elements", len(l))
		}
	}
}

// TestListIsNewMemory: rule R3, down to lists within lists, and those of values that are not right.
func TestListIsNewMemory(t *testing.T) {
	make3 := func() []api.Value {
		inner := []api.Value{Number(1), Number(2), Number(3)}
		odd := []api.Value{Number(4)}
		return []api.Value{{Kind: api.List, List: inner[:2]}, {Kind: api.Int, List: odd}, Number(9)}
	}
	in, want := make3(), make3()
	v, w := List(in[:2]), List(in[:2])
	if !reflect.DeepEqual(in, want) {
		t.Fatal("the argument was written into")
	}
	in[0].List[0], in[1].List[0] = Number(7), Number(7)
	in[1] = Number(8)
	if !same(v, listOf(want[0], want[1])) {
		t.Errorf("the argument was kept: %v", v)
	}
	v.List[0].List[0], v.List[1].List[0] = Number(5), Number(5)
	_ = append(v.List, Number(6))
	_ = append(v.List[0].List, Number(6))
	if !same(w, listOf(want[0], want[1])) {
		t.Errorf("two answers share memory: %v", w)
	}
	if !same(in[2], Number(9)) || !same(in[0].List[:3][2], Number(3)) {
		t.Error("what stands behind the argument's length was written into")
	}
}

// TestListsOfOneAnswer: growing one list of an answer leaves the others as they are.
func TestListsOfOneAnswer(t *testing.T) {
	shared := []api.Value{Number(1)}
	v := List([]api.Value{listOf(shared...), listOf(shared...), {Kind: api.List}, {Kind: api.List}})
	for i := range v.List {
		v.List[i].List = append(v.List[i].List, Number(i+2))
	}
	v.List[0].List[0] = Number(8)
	if want := "[[8,2],[1,3],[4],[5]]"; Print(v) != want {
		t.Errorf("%s, not %s", Print(v), want)
	}
}

func TestNameV2(t *testing.T) {
	for s, want := range map[string]bool{
		"a": true, "z": true, "a_": true, "a9": true, "az09_": true, "abcdefghijklmnop": true, "a234567890123456": true, "m_______________": true,
		"": false, "_": false, "_a": false, "0": false, "9a": false, "A": false, "aZ": false, "a b": false, "a-b": false, "a.": false, " a": false, "a\n": false, "a\x00": false,
		"abcdefghijklmnopq": false, "é": false, "aé": false, "a\xff": false, "\xff": false, "ａ": false, "a\uFFFD": false, "aa\u0301": false, "abcdefghijklmno\xff": false,
	} {
		if Name(s) != want {
			t.Errorf("Name(%q) is not %v", s, want)
		}
	}
	for c := range 256 {
		b := byte(c)
		first := b >= 'a' && b <= 'z'
		if Name(string([]byte{b})) != first {
			t.Errorf("byte %d first", c)
		}
		if Name(string([]byte{'a', b})) != (first || b >= '0' && b <= '9' || b == '_') {
			t.Errorf("byte %d second", c)
		}
	}
}

func TestRightV2(t *testing.T) {
	for k, v := range rights() {
		if !Right(v) {
			t.Errorf("%q is right", k)
		}
	}
	for k, v := range wrongs() {
		if Right(v) {
			t.Errorf("%q is not right", k)
		}
	}
}

// TestEmptyListsAreAlike: rule R2, a list without elements may be nil or not.
func TestEmptyListsAreAlike(t *testing.T) {
	for _, v := range []api.Value{Number(1), Text("a"), Addr("a"), List(nil)} {
		w := v
		w.List = []api.Value{}
		if !Right(w) || Compare(v, w) != 0 || Print(v) != Print(w) {
			t.Errorf("%v and %v differ", v, w)
		}
	}
}

// rising are values of which each comes ahead of the next one; equal ones stand in one list.
func rising() [][]api.Value {
	long := strings.Repeat("x", 40)
	return [][]api.Value{
		{{Kind: -1 << 63}}, {{Kind: -1}, {Kind: -1, Int: 3, Text: "a", List: []api.Value{Number(1)}}}, {{}, {Int: -1}, {Text: "z"}},
		{Number(-1 << 63)}, {Number(-1 << 31)}, {Number(-(1<<31 - 1))}, {Number(-1)}, {Number(0), {Kind: api.Int, Text: "a", List: []api.Value{{}}}}, {Number(1)}, {Number(9)}, {Number(10)}, {Number(1<<31 - 1)}, {Number(1 << 31)}, {Number(1<<63 - 1)},
		{Text(""), {Kind: api.Text, Int: 5}}, {Text("\x00")}, {Text(" ")}, {Text("10")}, {Text("9")}, {Text("Z")}, {Text("a")}, {Text("a ")}, {Text("aa")}, {Text("ab")}, {Text("b")}, {Text(long)}, {Text(long + "y")}, {Text("~")}, {Text("\xc3")}, {Text("\xc3\xa9")}, {Text("\xef\xbf\xbd")}, {Text("\xfe")}, {Text("\xff")}, {Text("\xff\xff")},
		{Addr("")}, {Addr("A")}, {Addr("a"), {Kind: api.Addr, Text: "a", Int: 1}}, {Addr("a0")}, {Addr("a_")}, {Addr("aa")}, {Addr("b")}, {Addr("\xfe")}, {Addr("\xff")},
		{List(nil), {Kind: api.List, List: []api.Value{}, Int: 4, Text: "b"}}, {listOf(api.Value{}), listOf(api.Value{Int: 1})}, {listOf(api.Value{}, api.Value{})}, {listOf(Number(1))}, {listOf(Number(1), Number(0))}, {listOf(Number(1), Number(0), Number(0))}, {listOf(Number(1), Text(""))}, {listOf(Number(2))}, {listOf(Text("a"), Number(9))}, {listOf(Text("ab"))}, {listOf(Addr("a"))}, {nest(2)}, {listOf(nest(1), Number(0))}, {listOf(listOf(Number(3)), Number(0))}, {nest(3)}, {nest(1 << 10)}, {nest(1 << 16)}, {listOf(api.Value{Kind: 5})},
		{{Kind: 5}, {Kind: 5, Int: 1, Text: "c"}}, {{Kind: 1<<63 - 1}},
	}
}

func TestCompareV3(t *testing.T) {
	all := rising()
	for i, a := range all {
		for k, b := range all {
			want := 0
			if i < k {
				want = -1
			}
			if i > k {
				want = 1
			}
			for _, x := range a {
				for _, y := range b {
					if got := Compare(x, y); got != want {
						t.Errorf("%d and %d: %d, not %d", i, k, got, want)
					}
				}
			}
		}
	}
}

func TestPrintV4(t *testing.T) {
	for want, v := range rights() {
		if got := Print(v); got != want {
			t.Errorf("%s, not %s", got, want)
		}
	}
	for k, v := range wrongs() {
		if got := Print(v); got != "" {
			t.Errorf("%q: %q", k, got)
		}
	}
}

// TestGreatestPrint: the list that has most in it is still told whole.
func TestGreatestPrint(t *testing.T) {
	v := Text(strings.Repeat("~", 32))
	want := `"` + v.Text + `"`
	for range 4 {
		v = List(slices.Repeat([]api.Value{v}, 16))
		want = "[" + want + strings.Repeat(","+want, 15) + "]"
	}
	if !Right(v) || Print(v) != want || Compare(v, List(v.List)) != 0 {
		t.Error("the greatest list")
	}
}

func valuesOf(m map[string]api.Value) []api.Value {
	var out []api.Value
	for _, v := range m {
		out = append(out, v)
	}
	return out
}

// drawn are many values, right and wrong, out of few parts, so that beginnings and sames are among them.
func drawn(n int) []api.Value {
	seed := uint32(1)
	next := func(k int) int {
		seed = seed*1664525 + 1013904223
		return int(seed>>16) % k
	}
	texts := []string{"", "a", "ab", "b", "a_1", "7", `"`, "\xff"}
	var draw func(depth int) api.Value
	draw = func(depth int) api.Value {
		switch k := next(5 - min(1, depth/4)); k {
		case 0:
			return Number(next(5) - 2)
		case 1:
			return Text(texts[next(len(texts))])
		case 2:
			return Addr(texts[next(len(texts))])
		case 3:
			return api.Value{Kind: next(7) - 1, Int: next(2), Text: texts[next(2)]}
		}
		l := make([]api.Value, next(3))
		for i := range l {
			l[i] = draw(depth + 1)
		}
		return List(l)
	}
	out := make([]api.Value, n)
	for i := range out {
		out[i] = draw(0)
	}
	return out
}

func TestOrderV5(t *testing.T) {
	all := append(drawn(150), valuesOf(rights())...)
	for _, l := range rising() {
		for _, v := range l {
			if Right(v) || v.Kind != api.List {
				all = append(all, v)
			}
		}
	}
	for _, a := range all {
		for _, b := range all {
			ab := Compare(a, b)
			if ab < -1 || ab > 1 || ab != -Compare(b, a) {
				t.Fatalf("%v and %v: %d, and %d the other way", a, b, ab, Compare(b, a))
			}
			if ab > 0 {
				continue
			}
			for _, c := range all {
				bc, ac := Compare(b, c), Compare(a, c)
				if bc <= 0 && (ac > 0 || ac == 0 && (ab < 0 || bc < 0)) {
					t.Fatalf("%v, %v, %v: %d, %d, but %d", a, b, c, ab, bc, ac)
				}
			}
		}
	}
}

func TestRightOnesV5(t *testing.T) {
	all := slices.DeleteFunc(append(drawn(1200), valuesOf(rights())...), func(v api.Value) bool { return !Right(v) })
	if len(all) < 300 {
		t.Fatalf("%d right ones are too few", len(all))
	}
	for _, a := range all {
		for _, b := range all {
			is := same(a, b)
			if (Compare(a, b) == 0) != is {
				t.Fatalf("Compare of %v and %v is %d", a, b, Compare(a, b))
			}
			if (Print(a) == Print(b)) != is {
				t.Fatalf("Print of %v and %v: %s", a, b, Print(a))
			}
		}
	}
}

// TestArgumentsStay: rule R3, no call writes into what it is given.
func TestArgumentsStay(t *testing.T) {
	made := func() []api.Value {
		return []api.Value{listOf(Number(2), listOf(Text("a"), Addr("b"))), listOf(Number(2), listOf(Text("b"))), listOf(api.Value{})}
	}
	in := made()
	for _, a := range in {
		for _, b := range in {
			Compare(a, b)
		}
		Right(a)
		Print(a)
		List(a.List)
	}
	if !reflect.DeepEqual(in, made()) {
		t.Error("an argument was written into")
	}
}

// TestDeep: the bound of DOC.md's 'Limits' lets 2^16 parts be within one another.
func TestDeep(t *testing.T) {
	v := nest(1 << 16)
	w := List(v.List)
	if Compare(v, w) != 0 || Compare(v, nest(1<<16-1)) != 1 || Right(w) || Print(w) != "" {
		t.Error("a very deep list")
	}
}
