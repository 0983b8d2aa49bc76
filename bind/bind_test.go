package bind

import (
	"reflect"
	"slices"
	"strconv"
	"strings"
	"testing"

	"beaconry/api"
	"beaconry/builtin"
	"beaconry/value"
)

// holds asks for a value, right or not, and true.
func holds(t *testing.T, got api.Value, ok bool, want api.Value) {
	t.Helper()
	if !ok || !same(got, want) {
		t.Errorf("%.200v %v, not %.200v", value.Print(got), ok, value.Print(want))
	}
}

// none asks for nothing and false.
func none(t *testing.T, got api.Value, ok bool) {
	t.Helper()
	if ok || !reflect.DeepEqual(got, api.Value{}) {
		t.Errorf("%.200v %v, not nothing and false", value.Print(got), ok)
	}
}

func TestLookupN1(t *testing.T) {
	env := envOf(t, `X=1 Y=[2,[a]] X=3 Z="a" A=n1 Y=b S_1=0`)
	for name, want := range map[string]string{"X": "1", "Y": "[2,[a]]", "Z": `"a"`, "A": "n1", "S_1": "0"} {
		got, ok := Lookup(env, name)
		holds(t, got, ok, values(t, want)[0])
	}
	for _, name := range []string{"", "W", "x", "XX", "X ", " X", "S", "S_", "S_11", "n1", "a", "1", "X\x00", "\xff", strings.Repeat("X", 1000)} {
		got, ok := Lookup(env, name)
		none(t, got, ok)
		for _, empty := range [][]api.Bind{nil, {}, env[:0]} {
			got, ok = Lookup(empty, name)
			none(t, got, ok)
		}
	}
}

// TestLookupOfAnyNameN1: a name need not be a variable's; it is held against others byte by byte.
func TestLookupOfAnyNameN1(t *testing.T) {
	names := []string{"", "x", "f_size", "X\xff", "X\xfe", "X\uFFFD", "X", "X\x00", "É", "E\u0301", "1", strings.Repeat("X", 1000)}
	var env []api.Bind
	for i, name := range names {
		env = append(env, api.Bind{Name: name, Value: num(i)}, api.Bind{Name: name, Value: text("second")})
	}
	for i, name := range names {
		got, ok := Lookup(env, name)
		holds(t, got, ok, num(i))
		got, ok = Eval(v(name), env)
		holds(t, got, ok, num(i))
		got, ok = Lookup(env[2*i+2:], name)
		none(t, got, ok)
		got, ok = Lookup(env[2*i+1:], name)
		holds(t, got, ok, text("second"))
	}
}

// TestLookupOfAnyValueN1: what a variable has need not be right; it comes as it is.
func TestLookupOfAnyValueN1(t *testing.T) {
	for _, x := range append(wrongs(), num(0), list(), nest(1<<16)) {
		env := []api.Bind{{Name: "W", Value: num(1)}, {Name: "X", Value: x}, {Name: "X", Value: num(1)}}
		got, ok := Lookup(env, "X")
		holds(t, got, ok, x)
		got, ok = Eval(v("X"), env)
		holds(t, got, ok, x)
		got, ok = Eval(c(x), env)
		holds(t, got, ok, x)
		got, ok = Eval(c(x), nil)
		holds(t, got, ok, x)
	}
}

const ahead = `X=2 L=[7] A=a T="t" E=[] N=-3 D=[[1,2],[a]] X=9 L=b`

// evals asks for terms' values, none of the empty text, with what is bound ahead.
func evals(t *testing.T, l map[string]string) {
	t.Helper()
	env := envOf(t, ahead)
	for s, want := range l {
		x := terms(t, s)[0]
		got, ok := Eval(x, env)
		if value.Print(got) != want || ok != (want != "") || !ok && !reflect.DeepEqual(got, api.Value{}) {
			t.Errorf("%s: %s %v, not %s", s, value.Print(got), ok, want)
		}
		if other, is := evaled(x, env); is != ok || !same(other, got) {
			t.Errorf("%s: %s, told another way: %s", s, value.Print(got), value.Print(other))
		}
	}
}

func TestVariablesAndValuesN2(t *testing.T) {
	evals(t, map[string]string{
		"X": "2", "L": "[7]", "A": "a", "T": `"t"`, "E": "[]", "N": "-3", "D": "[[1,2],[a]]", "W": "", "XX": "", "Ab": "",
		"0": "0", "5": "5", "-7": "-7", "2147483647": "2147483647", "-2147483647": "-2147483647", `""`: `""`, `"X"`: `"X"`, "x": "x", "n1": "n1", "[]": "[]", `[1,a,"b"]`: `[1,a,"b"]`, `[[],[[]],[[[a,-1]],"X"]]`: `[[],[[]],[[[a,-1]],"X"]]`,
	})
	for s, x := range map[string]api.Term{"X": v("X"), "L": v("L"), "the empty name": v("")} {
		for _, env := range [][]api.Bind{nil, {}, envOf(t, "W=1")} {
			if got, ok := Eval(x, env); ok || !same(got, api.Value{}) {
				t.Errorf("%s of nothing: %v", s, got)
			}
		}
	}
}

func TestCallsN2(t *testing.T) {
	evals(t, map[string]string{
		"f_cons(1,[2])": "[1,2]", "f_cons(X,L)": "[2,7]", "f_append(L,X)": "[7,2]", "f_concat(L,D)": "[7,[1,2],[a]]", "f_concat(D,L)": "[[1,2],[a],7]", "f_member(L,7)": "1", "f_member(L,X)": "0", "f_member(D,[a])": "1",
		"f_size(D)": "2", "f_size(E)": "0", "f_first(D)": "[1,2]", "f_last(D)": "[a]", "f_rest(D)": "[[a]]", "f_reverse(D)": "[[a],[1,2]]", "f_rest(L)": "[]",
		"f_cons(L,X)": "", "f_append(X,L)": "", "f_concat(X,L)": "", "f_concat(L,X)": "", "f_member(X,L)": "", "f_size(X)": "", "f_first(X)": "", "f_first(E)": "", "f_last(E)": "", "f_rest(E)": "", "f_last(A)": "", "f_rest(T)": "", "f_reverse(N)": "", "f_cons([[[[]]]],[])": "",
	})
}

func TestOpsN2(t *testing.T) {
	evals(t, map[string]string{
		"(X+3)": "5", "(X-3)": "-1", "(3-X)": "1", "(X*N)": "-6", "(X*X)": "4", "(1+1)": "2", "(X+0)": "2",
		"(2147483646+1)": "2147483647", "(2147483647+1)": "", "(-2147483647-1)": "", "(1073741824*X)": "",
		"(X+L)": "", "(L+X)": "", "(X*A)": "", "(T-X)": "", "(L+L)": "", "(A-A)": "", `("1"+1)`: "",
	})
}

// TestWithinOneAnotherN2: with what has no value at every depth, on either side.
func TestWithinOneAnotherN2(t *testing.T) {
	evals(t, map[string]string{
		"((X+1)*(X-N))": "15", "(X-(X-(X-N)))": "5", "(((X-1)-2)-3)": "-4", "f_cons((X+1),f_cons(A,f_rest(L)))": "[3,a]", "f_size(f_concat(D,f_cons(X,L)))": "4", "(f_size(D)*f_first(L))": "14", "f_member(f_first(D),(X-1))": "1",
		"f_first(f_first(f_cons(f_cons((X*X),L),L)))": "4", "(1+(2+(3+(4+(5+(6+(N+X)))))))": "20", "f_reverse(f_append(f_append(f_append(E,X),T),A))": `[a,"t",2]`,
		"(W+1)": "", "(1+W)": "", "(W+W)": "", "f_size(W)": "", "f_cons(W,L)": "", "f_cons(X,W)": "", "f_member(W,1)": "", "f_member([1],W)": "", "(f_size(W)+1)": "", "(1+f_first(f_cons(X,f_append(L,(1+W)))))": "",
		"f_cons(1,f_cons(2,f_cons(3,f_cons(4,f_cons(5,f_cons(6,W))))))": "", "((((((W+1)+1)+1)+1)+1)+1)": "", "f_first(f_cons(1,f_cons(W,E)))": "",
		"((2147483647+1)-1)": "", "(f_first(E)*0)": "", "f_cons(1,f_rest(f_rest(L)))": "", "f_member(L,f_first(E))": "", "f_size((X+1))": "", "(f_cons(1,E)+1)": "", "f_cons((X+A),L)": "",
	})
}

// TestNamesAndCountsN2: functions and ops that there are not, or that have other counts of arguments.
func TestNamesAndCountsN2(t *testing.T) {
	l := c(list(num(1)))
	for _, name := range []string{"f_cons", "f_append", "f_concat", "f_member", "f_size", "f_first", "f_last", "f_rest", "f_reverse", "", "f_", "f_none", "F_SIZE", "f_sizes", "materialize", "+", "-", "*", "==", "X", "\xff"} {
		for n := range 5 {
			x := call(name, slices.Repeat([]api.Term{l}, n)...)
			want, is := builtin.Call(name, slices.Repeat([]api.Value{l.Value}, n))
			if is != (n == builtin.Arity(name)) {
				t.Fatal(name, n)
			}
			if got, ok := Eval(x, nil); ok != is || !same(got, want) {
				t.Errorf("%s of %d: %v %v, not %v", name, n, got, ok, want)
			}
		}
	}
	for _, name := range []string{"+", "-", "*"} {
		for n := range 5 {
			if got, ok := Eval(op(name, slices.Repeat([]api.Term{c(num(3))}, n)...), nil); ok != (n == 2) || ok && got.Int != map[string]int{"+": 6, "-": 0, "*": 9}[name] {
				t.Errorf("%d %s: %v %v", n, name, got, ok)
			}
		}
	}
	for _, name := range []string{"", "/", "%", "++", " +", "==", "<", "f_cons", "f_member", "X", "\xff"} {
		for n := range 4 {
			got, ok := Eval(op(name, slices.Repeat([]api.Term{c(num(3))}, n)...), nil)
			none(t, got, ok)
			got, ok = Eval(op(name, slices.Repeat([]api.Term{l}, n)...), nil)
			none(t, got, ok)
		}
	}
}

func TestNoKindN2(t *testing.T) {
	env := append(envOf(t, "X=2 L=[7]"), api.Bind{Value: num(1)})
	for _, kind := range []int{0, 5, -1, 1<<32 + 1, 1<<63 - 1, -1 << 63} {
		for _, x := range []api.Term{{}, v("X"), c(num(1)), call("f_size", v("L")), op("+", v("X"), v("X"))} {
			x.Kind = kind
			got, ok := Eval(x, env)
			none(t, got, ok)
			for _, y := range []api.Term{call("f_cons", x, v("L")), call("f_member", v("L"), x), op("+", x, v("X")), op("*", v("X"), x), call("f_first", call("f_cons", v("X"), call("f_cons", x, v("L"))))} {
				got, ok = Eval(y, env)
				none(t, got, ok)
			}
		}
	}
}

// TestWrongTermsN2: what stands beside what a kind has counts for nothing, and wrong values are none of a function's.
func TestWrongTermsN2(t *testing.T) {
	env := envOf(t, "X=2 L=[7]")
	w, one := v("W"), num(1)
	for _, x := range []struct {
		t    api.Term
		want api.Value
	}{
		{api.Term{Kind: api.TermVar, Name: "X", Value: one, Args: []api.Term{w}}, num(2)}, {api.Term{Kind: api.TermValue, Name: "W", Value: one, Args: []api.Term{w, {}}}, one}, {api.Term{Kind: api.TermValue, Name: "X"}, api.Value{}},
		{api.Term{Kind: api.TermCall, Name: "f_size", Value: one, Args: []api.Term{v("L")}}, one}, {api.Term{Kind: api.TermOp, Name: "-", Value: one, Args: []api.Term{v("X"), v("X")}}, num(0)},
		{c(addr("f_size")), addr("f_size")}, {call("f_cons", c(addr("f_size")), v("L")), list(addr("f_size"), num(7))},
	} {
		got, ok := Eval(x.t, env)
		holds(t, got, ok, x.want)
	}
	for _, x := range wrongs() {
		for _, y := range []api.Term{call("f_cons", c(x), v("L")), call("f_member", v("L"), c(x)), call("f_size", c(x)), call("f_reverse", c(x)), op("+", c(x), v("X")), op("-", v("X"), c(x)), call("f_size", call("f_append", v("L"), v("W")))} {
			got, ok := Eval(y, append(envOf(t, "X=2 L=[7]"), api.Bind{Name: "W", Value: x}))
			none(t, got, ok)
		}
	}
}

// TestGreatTermsN2: no depth and no size is too great.
func TestGreatTermsN2(t *testing.T) {
	env := envOf(t, "X=2 L=[7]")
	sum, lists, lost := v("X"), v("L"), v("W")
	for range 1<<16 - 8 {
		sum, lists, lost = op("+", sum, c(num(1))), call("f_reverse", lists), op("-", c(num(0)), lost)
	}
	got, ok := Eval(sum, env)
	holds(t, got, ok, num(1<<16-6))
	got, ok = Eval(lists, env)
	holds(t, got, ok, list(num(7)))
	got, ok = Eval(lost, env)
	none(t, got, ok)
	got, ok = Eval(call("f_size", slices.Repeat([]api.Term{v("L")}, 1<<16)...), env)
	none(t, got, ok)
}

// matches asks for what Match gives, "no" where it gives nothing, by arguments, values and what is bound ahead.
func matches(t *testing.T, l [][4]string) {
	t.Helper()
	for _, x := range l {
		args, given, env := terms(t, x[0]), values(t, x[1]), envOf(t, x[2])
		got, ok := Match(args, given, env)
		if ok != (x[3] != "no") || ok && telling(got) != x[3] || !ok && len(got) > 0 {
			t.Errorf("(%s) of (%s) by %s: %s %v, not %s", x[0], x[1], x[2], telling(got), ok, x[3])
		}
		if other, is := matched(args, given, env); is != ok || !sameEnv(other, got) {
			t.Errorf("(%s) of (%s) by %s: %s, told another way: %s", x[0], x[1], x[2], telling(got), telling(other))
		}
	}
}

func TestCountsN3(t *testing.T) {
	matches(t, [][4]string{
		{"", "", "", ""}, {"", "", "X=1 Y=[a] X=2", "X=1 Y=[a] X=2"}, {"", "1", "", "no"}, {"", "1,2", "X=1", "no"}, {"X", "", "", "no"}, {"X", "", "X=1", "no"}, {"1", "", "", "no"},
		{"X", "1,2", "", "no"}, {"X", "1,1", "X=1", "no"}, {"X,Y", "1", "", "no"}, {"X,X", "1", "X=1", "no"}, {"1,2", "1", "", "no"}, {"1", "1,2", "", "no"}, {"(1+1)", "2,2", "", "no"}, {"X,Y,Z,X,Y,Z,A", "1,2,3,1,2,3", "", "no"},
	})
	empty, noValues := []api.Term{}, []api.Value{}
	if got, ok := Match(empty, noValues, []api.Bind{}); !ok || len(got) > 0 {
		t.Error("empty lists:", got, ok)
	}
	if got, ok := Match(nil, noValues, nil); !ok || len(got) > 0 {
		t.Error("an empty list, and none:", got, ok)
	}
	if got, ok := Match(terms(t, "X,Y")[:1], values(t, "1,2")[:1], envOf(t, "Z=1 Y=2")[:1]); !ok || telling(got) != "Z=1 X=1" {
		t.Error("what stands behind a length counts:", telling(got), ok)
	}
}

func TestVariablesN3(t *testing.T) {
	matches(t, [][4]string{
		{"X", "1", "", "X=1"}, {"X", "[1,[a]]", "", "X=[1,[a]]"}, {"X", `"a"`, "", `X="a"`}, {"X", "a", "", "X=a"}, {"X", "[]", "", "X=[]"},
		{"X,Y", "1,2", "", "X=1 Y=2"}, {"Y,X", "1,2", "", "Y=1 X=2"}, {"Z,A,Y,B", "1,1,1,1", "", "Z=1 A=1 Y=1 B=1"}, {"X,Y", "1,2", "W=a", "W=a X=1 Y=2"}, {"A,B,C", "3,2,1", "Z=1 Y=1", "Z=1 Y=1 A=3 B=2 C=1"},
		// One that stands there twice.
		{"X,X", "1,1", "", "X=1"}, {"X,X", "1,2", "", "no"}, {"X,X", "2,1", "", "no"}, {"X,Y,X", "1,2,1", "", "X=1 Y=2"}, {"X,Y,X", "1,1,2", "", "no"}, {"Y,X,X,Y,Z", "1,2,2,1,1", "", "Y=1 X=2 Z=1"}, {"X,Y,Z,X,Y", "1,2,3,1,3", "", "no"}, {"X,X,X", "[a],[a],[a]", "", "X=[a]"}, {"X,X,X", "[a],[a],[b]", "", "no"}, {"X,X", `a,"a"`, "", "no"}, {"X,X", `1,"1"`, "", "no"}, {"X,X", "[],[[]]", "", "no"}, {"X,X", "1,[1]", "", "no"},
		// One that has a value already.
		{"X", "1", "X=1", "X=1"}, {"X", "2", "X=1", "no"}, {"X,X", "1,1", "X=1", "X=1"}, {"X,X", "2,2", "X=1", "no"}, {"Y,X", "2,1", "X=1", "X=1 Y=2"}, {"Y,X", "1,2", "X=1", "no"}, {"Y,X,Z", "2,1,3", "W=a X=1", "W=a X=1 Y=2 Z=3"}, {"X", "a", `X="a"`, "no"}, {"L", "[1,2]", "L=[1,2]", "L=[1,2]"}, {"L", "[1,2]", "L=[1]", "no"}, {"L", "[1]", "L=[1,2]", "no"}, {"X", "0", "X=[]", "no"},
		// The first one counts of a name that is there twice, and both stay.
		{"X", "1", "X=1 X=2", "X=1 X=2"}, {"X", "2", "X=1 X=2", "no"}, {"Y,X", "2,1", "X=1 Z=0 X=2", "X=1 Z=0 X=2 Y=2"},
	})
}

func TestValuesN3(t *testing.T) {
	matches(t, [][4]string{
		{"1", "1", "", ""}, {"1", "2", "", "no"}, {"1", `"1"`, "", "no"}, {"a", "a", "", ""}, {"a", `"a"`, "", "no"}, {`"a"`, "a", "", "no"}, {"a", "ab", "", "no"}, {"ab", "a", "", "no"}, {"[1,[a]]", "[1,[a]]", "X=1", "X=1"}, {"[1,[a]]", "[1,[b]]", "X=1", "no"}, {"[1]", "[1,1]", "", "no"}, {"[]", "[]", "", ""}, {"[]", "0", "", "no"}, {`""`, `""`, "", ""},
		{"1,a,[]", "1,a,[]", "", ""}, {"1,a,[]", "1,a,[[]]", "", "no"}, {"1,a,[]", "1,b,[]", "", "no"}, {"1,a,[]", "0,a,[]", "", "no"},
		{"X,1", "5,1", "", "X=5"}, {"X,1", "5,2", "", "no"}, {"1,X", "1,5", "", "X=5"}, {"1,X", "2,5", "", "no"}, {"1,X,X", "1,5,6", "", "no"}, {"X,1,X,a,Y", "[2],1,[2],a,b", "W=0", "W=0 X=[2] Y=b"}, {"x,X", "x,y", "", "X=y"}, {`"X",X`, `"X",1`, "", "X=1"},
	})
}

func TestCallsAndOpsN3(t *testing.T) {
	matches(t, [][4]string{
		{"X,X,(X+1)", "2,2,3", "", "X=2"}, {"X,X,(X+1)", "2,3,3", "", "no"}, {"X,X,(X+1)", "2,2,4", "", "no"},
		{"(X+1)", "3", "X=2", "X=2"}, {"(X+1)", "4", "X=2", "no"}, {"(1+1)", "2", "", ""}, {"(1+1)", "3", "", "no"}, {"f_size([a,b])", "2", "", ""}, {"f_cons(X,L)", "[1,2]", "L=[2] X=1", "L=[2] X=1"}, {"f_cons(X,L)", "[1,2]", "L=[1] X=2", "no"},
		// They stand ahead of what they need.
		{"(X+1),X", "3,2", "", "X=2"}, {"(X+1),X", "2,2", "", "no"}, {"(X-Y),Y,X", "3,2,5", "", "Y=2 X=5"}, {"(X-Y),X,Y", "3,2,5", "", "no"}, {"f_cons(Y,L),Y,L", "[1,2],1,[2]", "", "Y=1 L=[2]"}, {"f_cons(Y,L),L,Y", "[1,2],[2],1", "Y=1", "Y=1 L=[2]"}, {"f_size(f_cons((X*Y),L)),X,L,Y", "2,3,[a],4", "", "X=3 L=[a] Y=4"}, {"(X+1),(Y+1),(X+Y),Y,X", "2,3,3,2,1", "", "Y=2 X=1"}, {"(X+1),(Y+1),(X+Y),Y,X", "2,3,4,2,1", "", "no"},
		// The first value of a name counts, and what is bound behind it does not.
		{"(X+1)", "2", "X=1 X=2", "X=1 X=2"}, {"(X+1)", "3", "X=1 X=2", "no"}, {"(X+Y),Y", "3,2", "X=1 X=2", "X=1 X=2 Y=2"},
		// They bind nothing.
		{"(W+1)", "2", "", "no"}, {"(W+1),X", "2,1", "", "no"}, {"X,f_size(W)", "1,0", "X=1", "no"}, {"f_cons(W,L),L", "[1],[]", "", "no"}, {"L,f_cons(1,f_cons(W,L))", "[],[1,2]", "", "no"}, {"(W-W)", "0", "", "no"}, {"W,(W+V)", "1,2", "", "no"}, {"W,(W+V)", "1,2", "V=1", "V=1 W=1"},
		// They have no value.
		{"X,f_first(X)", "[],0", "", "no"}, {"X,(X+1)", "2147483647,0", "", "no"}, {"X,(X+1)", "a,1", "", "no"}, {"X,Y,f_concat(X,Y)", "[1],2,[1,2]", "", "no"},
		{"S,D,(C+1),f_cons(S,P),C,P,a", "a,b,4,[a,b],3,[b],a", "", "S=a D=b C=3 P=[b]"}, {"S,D,(C+1),f_cons(S,P),C,P,a", "a,b,4,[a,b],3,[b],b", "", "no"},
	})
}

// TestWrongValuesN3: values need not be right; they are held against each other by chapter 1's Compare, and the first one stays.
func TestWrongValuesN3(t *testing.T) {
	w, x := v("W"), v("X")
	for _, a := range wrongs() {
		for _, b := range append(wrongs(), num(1), text("a"), addr("a"), list(num(1))) {
			want := []api.Bind{{Name: "X", Value: a}}
			is := value.Compare(a, b) == 0
			for _, m := range []struct {
				args []api.Term
				l    []api.Value
				env  []api.Bind
				want []api.Bind
			}{
				{[]api.Term{x}, []api.Value{b}, want, want}, {[]api.Term{x, x}, []api.Value{a, b}, nil, want}, {[]api.Term{c(a)}, []api.Value{b}, nil, nil},
				{[]api.Term{w, x, w, c(a)}, []api.Value{num(7), b, num(7), b}, want, append(want[:1:1], api.Bind{Name: "W", Value: num(7)})},
			} {
				got, ok := Match(m.args, m.l, m.env)
				if ok != is || ok && !sameEnv(got, m.want) || !ok && len(got) > 0 {
					t.Errorf("%v against %v: %v %v", a, b, got, ok)
				}
			}
		}
		if got, ok := Match([]api.Term{x, call("f_cons", x, c(list()))}, []api.Value{a, list(a)}, nil); ok || len(got) > 0 {
			t.Error("a call takes a value that is not right:", a.Kind)
		}
	}
}

// TestWrongTermsN3: what has no value is no value's, not even that of no kind.
func TestWrongTermsN3(t *testing.T) {
	env := envOf(t, "X=2 L=[7]")
	for _, x := range []api.Term{{}, {Name: "X"}, {Kind: 5, Name: "Y"}, {Value: num(1)}, call("f_none"), call("f_size"), call("f_size", v("L"), v("L")), op("+"), op("+", v("X")), op("+", v("X"), v("X"), v("X")), op("/", v("X"), v("X")), op("==", v("X"), v("X"))} {
		for _, y := range []api.Value{{}, num(0), num(1), num(2), num(4), list()} {
			for _, args := range [][]api.Term{{x}, {x, v("Y")}, {v("Y"), x}, {v("Y"), x, v("X")}} {
				l := slices.Repeat([]api.Value{y}, len(args))
				if got, ok := Match(args, l, env); ok || len(got) > 0 {
					t.Errorf("%v is %v", x, y)
				}
			}
		}
	}
	odd := api.Term{Kind: api.TermVar, Name: "Y", Value: num(3), Args: []api.Term{v("Z")}}
	if got, ok := Match([]api.Term{odd, v(""), v("y")}, values(t, "1,2,3"), env); !ok || !sameEnv(got, append(env[:2:2], api.Bind{Name: "Y", Value: num(1)}, api.Bind{Value: num(2)}, api.Bind{Name: "y", Value: num(3)})) {
		t.Error("a variable, whatever stands beside it and whatever its name is:", got, ok)
	}
	odd = api.Term{Kind: api.TermValue, Name: "Y"}
	if got, ok := Match([]api.Term{odd}, []api.Value{{}}, nil); !ok || len(got) > 0 {
		t.Error("a value of no kind is that:", got, ok)
	}
}

func TestGreatAtomsN3(t *testing.T) {
	const n = 3000
	var args []api.Term
	var l []api.Value
	for i := range n {
		args, l = append(args, v("X"+strconv.Itoa(i))), append(l, num(i))
	}
	sum := op("+", args[n-1], args[n-2])
	got, ok := Match(append([]api.Term{sum}, args...), append([]api.Value{num(2*n - 3)}, l...), envOf(t, "X=1"))
	if !ok || len(got) != n+1 || got[0].Name != "X" {
		t.Fatal(len(got), ok)
	}
	for i, b := range got[1:] {
		if !sameBind(b, api.Bind{Name: args[i].Name, Value: l[i]}) {
			t.Fatal(i, b)
		}
	}
	if again, ok := Match(args, l, got); !ok || !sameEnv(again, got) {
		t.Error("what is bound already is bound again:", ok, len(again))
	}
	deep := nest(1 << 16)
	if got, ok := Match([]api.Term{v("X"), c(deep), v("X")}, []api.Value{deep, deep, deep}, nil); !ok || !sameEnv(got, []api.Bind{{Name: "X", Value: deep}}) {
		t.Error("lists of a great depth:", ok, len(got))
	}
}

// TestDrawnTermsN4: Eval hangs on a term's variables alone.
func TestDrawnTermsN4(t *testing.T) {
	d := &drawer{seed: 9}
	count := [2]int{}
	for range 20000 {
		x, env := d.term(4), d.env(8)
		got, ok := Eval(x, env)
		if want, is := evaled(x, env); ok != is || !same(got, want) {
			t.Fatalf("%v by %s: %v %v, not %v", x, telling(env), got, ok, want)
		}
		other := d.othersChanged(env, vars(x))
		if again, is := Eval(x, other); ok != is || !same(again, got) {
			t.Fatalf("%v by %s: %v %v; by %s: %v %v", x, telling(env), got, ok, telling(other), again, is)
		}
		if ok {
			count[1]++
		} else {
			count[0]++
		}
	}
	if min(count[0], count[1]) < 4000 {
		t.Error("too few of one kind:", count)
	}
}

// othersChanged has the same first values of these names, in another order, among others.
func (d *drawer) othersChanged(env []api.Bind, names []string) []api.Bind {
	var firsts []api.Bind
	for name, x := range byNames(env) {
		if slices.Contains(names, name) {
			firsts = append(firsts, api.Bind{Name: name, Value: x})
		}
	}
	slices.SortFunc(firsts, func(a, b api.Bind) int { return strings.Compare(b.Name, a.Name) })
	var out []api.Bind
	for _, b := range append(firsts, firsts...) {
		out = append(out, d.env(2)...)
		out = append(out, b)
	}
	return slices.DeleteFunc(out, func(b api.Bind) bool {
		return slices.Contains(names, b.Name) && !slices.ContainsFunc(firsts, func(f api.Bind) bool { return sameBind(f, b) })
	})
}

// TestDrawnAtomsN4: what Match gives has what was there ahead, binds arguments' variables behind it, each once and in their order, and makes each argument its value.
func TestDrawnAtomsN4(t *testing.T) {
	d := &drawer{seed: 10}
	count := [2]int{}
	for range 20000 {
		args, l, env := d.atom()
		got, ok := Match(args, l, env)
		if want, is := matched(args, l, env); ok != is || !sameEnv(got, want) {
			t.Fatalf("%v of %v by %s: %s %v, not %s", args, l, telling(env), telling(got), ok, telling(want))
		}
		if !ok {
			count[0]++
			continue
		}
		count[1] += min(1, len(got)-len(env))
		for i, x := range args {
			if y, ok := Eval(x, got); !ok || value.Compare(y, l[i]) != 0 {
				t.Fatalf("%v is not %v, but %v, by %s", x, l[i], y, telling(got))
			}
		}
		if len(got) < len(env) || !sameEnv(got[:len(env)], env) {
			t.Fatalf("what %s had is not ahead: %s", telling(env), telling(got))
		}
		if names := unbound(args, env); !slices.EqualFunc(got[len(env):], names, func(b api.Bind, name string) bool { return b.Name == name }) {
			t.Fatalf("bound are not %s: %s", names, telling(got))
		}
		if again, ok := Match(args, l, got); !ok || !sameEnv(again, got) {
			t.Fatalf("it does not stay: %s", telling(again))
		}
	}
	if min(count[0], count[1]) < 4000 {
		t.Error("too few of one kind:", count)
	}
}

// unbound are the names of arguments that are variables and are not there yet, each once.
func unbound(args []api.Term, env []api.Bind) []string {
	var out []string
	for _, x := range args {
		is := slices.Contains(out, x.Name) || slices.ContainsFunc(env, func(b api.Bind) bool { return b.Name == x.Name })
		if x.Kind == api.TermVar && !is {
			out = append(out, x.Name)
		}
	}
	return out
}
