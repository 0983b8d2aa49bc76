package fire

import (
	"slices"
	"strconv"
	"strings"
	"testing"

	"beaconry/api"
)

// fires asks for what follows by a rule, of the same rows each time.
func fires(t *testing.T, rows string, l [][2]string) {
	t.Helper()
	for _, x := range l {
		firesOf(t, x[0], rows, x[1])
	}
}

func firesOf(t *testing.T, rule, rows, want string) {
	t.Helper()
	r, l := ruleOf(t, rule), rowsOf(t, rows)
	if got := telling(Fire(r, l)); got != want {
		t.Errorf("%s, of %s: %s, not %s", rule, rows, got, want)
	}
	if got := telling(firedRows(r, l)); got != want {
		t.Errorf("%s, of %s: %s, told another way", rule, rows, got)
	}
	slices.Reverse(l)
	if got := telling(Fire(r, append(l, l...))); got != want {
		t.Errorf("%s, of %s turned about and twice: %s, not %s", rule, rows, got, want)
	}
}

const known1 = `q(a,3):7 q(a,5):2 q(b,3):3 l(a,b,1):4 l(b,a,2):5 l(a,c,9):6 z(a,[1,2]):8 z(b,[]):9 s(a,"x"):1`

func TestOneAtomF2(t *testing.T) {
	fires(t, known1, [][2]string{
		{"p(@S,X) :- q(@S,X)", "p(a,3):7 p(a,5):2 p(b,3):3"}, {"p(@S,D) :- l(@S,D,C)", "p(a,b):4 p(a,c):6 p(b,a):5"}, {"p(@D,S,C) :- l(@S,D,C)", "p(a,b,2):5 p(b,a,1):4 p(c,a,9):6"}, {"q(@S,X) :- q(@S,X)", "q(a,3):7 q(a,5):2 q(b,3):3"},
		// Arguments that are no variables.
		{"p(@S) :- q(@S,3)", "p(a):7 p(b):3"}, {"p(@a,X) :- q(@a,X)", "p(a,3):7 p(a,5):2"}, {"p(@c,X) :- q(@b,X)", "p(c,3):3"}, {"p(@S) :- s(@S,\"x\")", "p(a):1"}, {"p(@S) :- s(@S,x)", ""}, {"p(@S) :- z(@S,[])", "p(b):9"}, {"p(@S) :- z(@S,[1,2])", "p(a):8"}, {"p(@S) :- z(@S,f_cons(1,[2]))", "p(a):8"}, {"p(@S) :- q(@S,(2+3))", "p(a):2"}, {"p(@S) :- l(@S,D,(1+1))", "p(b):5"},
		// What the head has.
		{"p(@S,(X*2)) :- q(@S,X)", "p(a,6):7 p(a,10):2 p(b,6):3"}, {"p(@S,[1],\"X\",x,-1) :- q(@S,5)", `p(a,[1],"X",x,-1):2`}, {"p(@S,f_cons(S,L)) :- z(@S,L)", "p(a,[a,1,2]):8 p(b,[b]):9"}, {"p(@n1) :- q(@S,X)", "p(n1):7"}, {"p(@X) :- q(@S,X)", "p(3):7 p(5):2"}, {"p(@S,S,X,X) :- q(@S,X)", "p(a,a,3,3):7 p(a,a,5,5):2 p(b,b,3,3):3"},
	})
}

func TestNothingMatchesF2(t *testing.T) {
	fires(t, known1, [][2]string{
		{"p(@S) :- none(@S)", ""}, {"p(@S) :- q(@S,4)", ""}, {"p(@S) :- q(@c,X)", ""}, {"p(@a) :- p(@S)", ""}, {"p(@S) :- qq(@S,X)", ""}, {"p(@S) :- q(@S,X), none(@S)", ""}, {"p(@S) :- none(@S), q(@S,X)", ""}, {"p(@S) :- q(@S,X), q(@X,Y)", ""},
		// More or fewer arguments than rows have.
		{"p(@S) :- q(@S)", ""}, {"p(@S) :- q(@S,X,Y)", ""}, {"p(@S) :- l(@S,D)", ""}, {"p(@S) :- l(@S,D,C,X)", ""},
	})
	fires(t, "q(a):1 q(a,3):2 q(a,3,4):3 q():4", [][2]string{
		{"p(@S) :- q(@S)", "p(a):1"}, {"p(@S,X) :- q(@S,X)", "p(a,3):2"}, {"p(@S,Y) :- q(@S,X,Y)", "p(a,4):3"}, {"p(@S) :- q(@S,X,Y,Z)", ""}, {"p(@S) :- q(@S), q(@S,X), q(@S,X,Y)", "p(a):1"}, {"p(@S) :- q(@S,X), !q(@S,X,X)", "p(a):2"}, {"p(@S) :- q(@S,X), !q(@S,X,Y)", ""},
	})
	fires(t, "q(a):1 qq(b):2 q_(c):3 p(d):4 r(e):5", [][2]string{
		{"p(@S) :- q(@S)", "p(a):1"}, {"p(@S) :- qq(@S)", "p(b):2"}, {"p(@S) :- q_(@S)", "p(c):3"}, {"p(@S) :- p(@S)", "p(d):4"}, {"p(@S) :- r(@S)", "p(e):5"}, {"p(@S) :- q0(@S)", ""}, {"p(@S) :- s(@S)", ""},
	})
}

func TestNoRowsF2(t *testing.T) {
	fires(t, "", [][2]string{
		{"p(@S) :- q(@S)", ""}, {"p(@S) :- S := a, q(@S)", ""}, {"p(@S) :- q(@S), S == S", ""}, {"p(@a) :- !q(@S)", "p(a):forever"}, {"p(@a,1) :- 1 < 2", "p(a,1):forever"}, {"p(@a) :- 1 > 2", ""}, {"p(@S) :- S := 4", "p(4):forever"}, {"p(@S,X) :- S := a, X := f_cons(S,[]), !q(@X), f_size(X) == 1", "p(a,[a]):forever"},
	})
	fires(t, "q(a,3):7", [][2]string{
		{"p(@S) :- q(@S,X)", "p(a):7"}, {"p(@S) :- q(@S,X), q(@S,X), q(@D,Y)", "p(a):7"}, {"p(@S) :- !q(@S,4), S := 4", "p(4):forever"}, {"p(@S) :- !q(@S,3), S := 4", ""},
	})
}

func TestSeveralAtomsF2(t *testing.T) {
	fires(t, known1, [][2]string{
		{"p(@S,X) :- l(@S,D,C), q(@D,X)", "p(a,3):3 p(b,3):5 p(b,5):2"}, {"p(@S,X) :- q(@D,X), l(@S,D,C)", "p(a,3):3 p(b,3):5 p(b,5):2"}, {"p(@S,D,X) :- l(@S,D,C), q(@S,X)", "p(a,b,3):4 p(a,b,5):2 p(a,c,3):6 p(a,c,5):2 p(b,a,3):3"}, {"p(@S,E) :- l(@S,D,C), l(@D,E,B)", "p(a,a):4 p(b,b):4 p(b,c):5"},
		{"p(@S,(C+B)) :- l(@S,D,C), l(@D,S,B)", "p(a,3):4 p(b,3):4"}, {"p(@S,L) :- q(@S,3), z(@S,L), s(@S,T)", "p(a,[1,2]):1"}, {"p(@S) :- z(@S,L), q(@S,5), l(@S,c,C), s(@S,\"x\")", "p(a):1"}, {"p(@D) :- q(@S,X), l(@D,S,(X-1))", "p(b):5"}, {"p(@D) :- q(@S,X), l(@D,S,(X-2))", "p(a):3"}, {"p(@D) :- l(@D,S,C), q(@S,(C+2))", "p(a):3"},
		// One relation in two atoms.
		{"p(@S,X,Y) :- q(@S,X), q(@S,Y)", "p(a,3,3):7 p(a,3,5):2 p(a,5,3):2 p(a,5,5):2 p(b,3,3):3"}, {"p(@S,D,X) :- q(@S,X), q(@D,X), S != D", "p(a,b,3):3 p(b,a,3):3"}, {"p(@S) :- q(@S,X), q(@S,(X+2))", "p(a):2"}, {"p(@S) :- q(@S,X), q(@S,X)", "p(a):7 p(b):3"}, {"p(@S,X,Y,Z) :- q(@S,X), q(@S,Y), q(@S,Z), X < Y, Z >= Y", "p(a,3,5,5):2"},
	})
}

func TestVariablesTwiceF2(t *testing.T) {
	fires(t, "l(a,a,1):1 l(a,b,1):2 l(a,b,b):3 l(b,b,b):4 l([],[],[]):5 q(a,a):6 q(a,1):7 q(b,b):8", [][2]string{
		{"p(@S,C) :- l(@S,S,C)", "p(a,1):1 p(b,b):4 p([],[]):5"}, {"p(@S) :- l(@S,S,S)", "p(b):4 p([]):5"}, {"p(@S,D) :- l(@S,D,D)", "p(a,b):3 p(b,b):4 p([],[]):5"}, {"p(@S,D) :- l(@S,D,S)", "p(b,b):4 p([],[]):5"}, {"p(@S) :- q(@S,S)", "p(a):6 p(b):8"},
		{"p(@S) :- l(@S,S,C), q(@S,C)", "p(a):1 p(b):4"}, {"p(@S) :- q(@S,C), l(@S,S,C)", "p(a):1 p(b):4"}, {"p(@S) :- l(@S,D,D), q(@D,D)", "p(a):3 p(b):4"}, {"p(@S) :- q(@S,S), l(@S,D,C), S == D", "p(a):1 p(b):4"},
	})
}

// TestStampsF2: the least one on a way, and of the ways to one row the greatest.
func TestStampsF2(t *testing.T) {
	for rows, want := range map[string]string{
		"q(a,1):5 t(a,1):3": "p(a):3", "q(a,1):3 t(a,1):5": "p(a):3", "q(a,1):5 t(a,1):5": "p(a):5", "q(a,1):-2 t(a,1):0": "p(a):-2", "q(a,1):0 t(a,1):-7": "p(a):-7", "q(a,1):-1 t(a,1):-2": "p(a):-2", "q(a,1):forever t(a,1):4": "p(a):4", "q(a,1):forever t(a,1):forever": "p(a):forever", "q(a,1):-4 t(a,1):forever": "p(a):-4", "q(a,1):1099511627777 t(a,1):9223372036854775807": "p(a):forever", "q(a,1):-9223372036854775808 t(a,1):1": "p(a):-9223372036854775808",
		// Sames count with the greatest of their stamps.
		"q(a,1):1 q(a,1):5 t(a,1):3": "p(a):3", "q(a,1):1 q(a,1):2 t(a,1):9 t(a,1):3": "p(a):2", "q(a,1):-9 t(a,1):6 q(a,1):forever": "p(a):6",
		// Several ways.
		"q(a,1):1 t(a,1):9 q(a,2):4 t(a,2):3": "p(a):3", "q(a,1):9 t(a,1):1 q(a,2):2 t(a,2):8 q(a,3):1 t(a,3):1": "p(a):2", "q(a,1):5 t(a,1):5 q(a,2):5 t(a,2):5": "p(a):5", "q(a,1):-5 t(a,1):-3 q(a,2):-2 t(a,2):-4": "p(a):-4", "q(a,1):forever t(a,1):2 q(a,2):3 t(a,2):forever": "p(a):3", "q(a,1):1 t(a,2):1": "", "q(a,1):9 t(a,2):9 q(a,3):1 t(a,3):2": "p(a):1",
	} {
		firesOf(t, "p(@S) :- q(@S,X), t(@S,X)", rows, want)
		firesOf(t, "p(@S) :- 1 == 1, q(@S,X), Y := X, !u(@S,Y), t(@S,Y)", rows, want)
	}
	// What binds nothing, and what no row stands for, has no stamp.
	fires(t, "q(a,1):5 t(a,1):2 t(a,2):1", [][2]string{
		{"p(@S) :- q(@S,X), !t(@S,3)", "p(a):5"}, {"p(@S) :- q(@S,X), !t(@S,(X+2))", "p(a):5"}, {"p(@S) :- q(@S,X), X < 2", "p(a):5"}, {"p(@S,Y) :- q(@S,X), Y := X", "p(a,1):5"},
	})
}

func TestBodyOfNothingF2(t *testing.T) {
	for _, l := range [][]api.Row{nil, {}, rowsOf(t, "q(a):1"), rowsOf(t, "p(a,3):1")} {
		for _, body := range [][]api.Literal{nil, {}} {
			r := api.Rule{Head: "p", Args: []api.Term{c(addr("a")), c(num(3))}, Body: body}
			want := []api.Row{{Name: "p", Args: []api.Value{addr("a"), num(3)}, Stamp: api.Forever}}
			if got := Fire(r, l); !sameRows(got, want) {
				t.Errorf("of %s: %s", telling(l), telling(got))
			}
			if got := Fire(api.Rule{Head: "p", Body: body}, l); !sameRows(got, []api.Row{{Name: "p", Stamp: api.Forever}}) {
				t.Errorf("a head of nothing, of %s: %s", telling(l), telling(got))
			}
			if got := Fire(api.Rule{Head: "p", Args: []api.Term{v("S")}, Body: body}, l); len(got) > 0 {
				t.Errorf("a variable that has no value, of %s: %s", telling(l), telling(got))
			}
			if got := Fire(api.Rule{Body: body}, l); !sameRows(got, []api.Row{{Stamp: api.Forever}}) {
				t.Errorf("no rule at all, of %s: %s", telling(l), telling(got))
			}
		}
	}
}

func TestNotF2(t *testing.T) {
	fires(t, known1, [][2]string{
		{"p(@S,X) :- q(@S,X), !l(@S,c,9)", "p(b,3):3"}, {"p(@S,X) :- q(@S,X), !z(@S,[])", "p(a,3):7 p(a,5):2"}, {"p(@S,X) :- q(@S,X), !s(@S,\"x\")", "p(b,3):3"}, {"p(@S,X) :- q(@S,X), !s(@S,x)", "p(a,3):7 p(a,5):2 p(b,3):3"}, {"p(@D) :- l(@S,D,C), !q(@D,3)", "p(c):6"}, {"p(@S,X) :- q(@S,X), !q(@S,(X+2))", "p(a,5):2 p(b,3):3"}, {"p(@S,X) :- q(@S,X), !q(@S,(X-2))", "p(a,3):7 p(b,3):3"}, {"p(@S,X) :- q(@S,X), !q(@S,X)", ""}, {"p(@S) :- q(@S,3), !none(@S)", "p(a):7 p(b):3"}, {"p(@S) :- q(@S,3), !q(@S)", "p(a):7 p(b):3"}, {"p(@S) :- q(@S,3), !z(@S,f_cons(1,f_cons(2,[])))", "p(b):3"},
		// Variables that nothing has bound: whatever a row has there. They stay unbound.
		{"p(@S) :- q(@S,3), !l(@S,D,9)", "p(b):3"}, {"p(@S) :- q(@S,3), !l(@D,c,C)", ""}, {"p(@S) :- q(@S,3), !l(@S,D,D)", "p(a):7 p(b):3"}, {"p(@S) :- q(@S,X), !q(@D,4)", "p(a):7 p(b):3"}, {"p(@S,D) :- q(@S,3), !l(@S,D,8)", ""}, {"p(@S,D) :- q(@S,3), !l(@S,D,8), l(@S,D,C)", "p(a,b):4 p(a,c):6 p(b,a):3"}, {"p(@S,D) :- q(@S,3), !none(@D), D := 1", "p(a,1):7 p(b,1):3"}, {"p(@S) :- q(@S,3), !none(@D), D == D", ""}, {"p(@S) :- q(@S,3), !q(@S,(W+2))", "p(a):7 p(b):3"}, {"p(@S) :- q(@S,3), !z(@S,f_cons(W,[2]))", "p(a):7 p(b):3"}, {"p(@S) :- q(@S,5), !z(@S,f_rest(W))", "p(a):2"},
		// They stand ahead of the atom that binds their variables.
		{"p(@S) :- !q(@S,3), q(@S,X)", ""}, {"p(@S) :- !q(@S,4), q(@S,X)", "p(a):7 p(b):3"}, {"p(@S) :- !l(@S,c,9), q(@S,X)", ""}, {"p(@S) :- !none(@S), q(@S,5)", "p(a):2"}, {"p(@S) :- !none(@a), q(@S,5)", "p(a):2"}, {"p(@S) :- !q(@a,3), q(@S,5)", ""}, {"p(@S,X) :- !q(@S,X), q(@S,X)", ""},
		// Several.
		{"p(@S) :- q(@S,X), !q(@S,9), !q(@S,8), !q(@S,7)", "p(a):7 p(b):3"}, {"p(@S) :- q(@S,X), !q(@S,9), !q(@S,5)", "p(b):3"}, {"p(@S) :- q(@S,X), !q(@S,5), !q(@S,9)", "p(b):3"},
	})
	// Its variable that stands there twice is one value; what is bound at a way's beginning counts for that way.
	fires(t, "q(a,b):1 q(b,c):2 l(b,b):3 l(c,d):4", [][2]string{
		{"p(@S,D) :- q(@S,D), !l(@D,D)", "p(b,c):2"}, {"p(@S,D) :- q(@S,D), !l(@D,E)", ""}, {"p(@S,D) :- q(@S,D), !l(@E,E)", ""}, {"p(@S,D) :- q(@S,D), !l(@E,S)", "p(a,b):1"}, {"p(@S,D) :- q(@S,D), !l(@S,E)", "p(a,b):1"},
	})
}

func TestTestsF2(t *testing.T) {
	for op, want := range map[string]string{"==": "p(3)", "!=": "p(1) p(5)", "<": "p(1)", "<=": "p(1) p(3)", ">": "p(5)", ">=": "p(3) p(5)"} {
		want = strings.ReplaceAll(strings.ReplaceAll(want, "p(", "p(a,"), ")", "):7")
		for _, rule := range []string{"p(@S,X) :- q(@S,X), X # 3", "p(@S,X) :- q(@S,X), (X+1) # 4", "p(@S,X) :- Y := 3, q(@S,X), X # Y", "p(@S,X) :- q(@S,X), q(@S,3), f_cons(X,[1]) # [3,1]", "p(@S,X) :- q(@S,X), f_cons(1,f_cons(X,[])) # f_append([1],3)"} {
			firesOf(t, strings.ReplaceAll(rule, "#", op), "q(a,1):7 q(a,3):7 q(a,5):7", want)
		}
	}
	fires(t, known1, [][2]string{
		{"p(@S) :- q(@S,X), X < S", "p(a):7 p(b):3"}, {"p(@S) :- q(@S,X), S < X", ""}, {"p(@S) :- z(@S,L), f_size(L) == 2", "p(a):8"}, {"p(@S) :- z(@S,L), f_member(L,2) == 0", "p(b):9"}, {"p(@S,D) :- q(@S,X), q(@D,Y), S < D, X == Y", "p(a,b):3"}, {"p(@S) :- s(@S,X), X == \"x\"", "p(a):1"}, {"p(@S) :- s(@S,X), X == x", ""},
	})
}

// TestTermsWithoutValuesF2: one does not come past what has no value, whatever the test is.
func TestTermsWithoutValuesF2(t *testing.T) {
	for _, op := range []string{"==", "!=", "<", "<=", ">", ">="} {
		for _, term := range []string{"W", "(W+1)", "(X+S)", "(2147483647+X)", "f_first([])", "f_size(X)", "f_cons(1,W)", "f_first(f_cons(W,[]))"} {
			for _, rule := range []string{"p(@S) :- q(@S,X), 3 # " + term, "p(@S) :- q(@S,X), " + term + " # 3", "p(@S) :- q(@S,X), " + term + " # " + term} {
				firesOf(t, strings.ReplaceAll(rule, "#", op), "q(a,3):1", "")
			}
		}
	}
	fires(t, known1, [][2]string{
		// Ahead of what binds it.
		{"p(@S) :- X < 4, q(@S,X)", ""}, {"p(@S) :- q(@S,X), X < Y, q(@S,Y)", ""}, {"p(@S) :- q(@S,X), Y == 1, Y := 1", ""}, {"p(@S) :- S == S, q(@S,X)", ""},
		// Some ways come past it.
		{"p(@S) :- z(@S,L), f_first(L) == 1", "p(a):8"}, {"p(@S) :- z(@S,L), f_first(L) != 7", "p(a):8"}, {"p(@S) :- l(@S,D,C), (C+2147483640) > 0", "p(a):4 p(b):5"},
	})
}

func TestAssignF2(t *testing.T) {
	fires(t, known1, [][2]string{
		{"p(@S,Y) :- q(@S,X), Y := (X+1)", "p(a,4):7 p(a,6):2 p(b,4):3"}, {"p(@S,Y) :- q(@S,X), Y := X", "p(a,3):7 p(a,5):2 p(b,3):3"}, {"p(@S,Y) :- q(@S,X), Y := 1", "p(a,1):7 p(b,1):3"}, {"p(@S,F) :- z(@S,L), F := f_first(L)", "p(a,1):8"}, {"p(@S,P) :- l(@S,D,C), P := f_cons(S,f_cons(D,[]))", "p(a,[a,b]):4 p(a,[a,c]):6 p(b,[b,a]):5"}, {"p(@S,Z) :- q(@S,X), Y := (X+1), Z := (Y*X)", "p(a,12):7 p(a,30):2 p(b,12):3"}, {"p(@S,Z) :- q(@S,X), Z := (Y*X), Y := (X+1)", ""},
		// It stands ahead of atoms and others that its variable is in.
		{"p(@S) :- X := 5, q(@S,X)", "p(a):2"}, {"p(@S) :- X := (2+1), q(@S,X)", "p(a):7 p(b):3"}, {"p(@S,D) :- S := b, l(@S,D,C)", "p(b,a):5"}, {"p(@S) :- q(@S,X), Y := (X+2), q(@S,Y)", "p(a):2"}, {"p(@S) :- q(@S,X), Y := (X+2), !q(@S,Y)", "p(a):2 p(b):3"}, {"p(@S,X) :- q(@S,X), Y := (X+1), Y < 5", "p(a,3):7 p(b,3):3"},
		// Its term has no value.
		{"p(@S) :- q(@S,X), Y := W", ""}, {"p(@S) :- q(@S,X), Y := (X+W)", ""}, {"p(@S) :- q(@S,X), Y := f_first(X)", ""}, {"p(@S) :- q(@S,X), Y := (2147483644+X)", "p(a):7 p(b):3"}, {"p(@S) :- q(@S,X), Y := Y", ""}, {"p(@S) :- q(@S,X), Y := (Y+1)", ""}, {"p(@S) :- Y := X, q(@S,X)", ""},
		// Its variable is bound already, to that or to another value.
		{"p(@S) :- q(@S,X), X := 3", ""}, {"p(@S) :- q(@S,X), X := X", ""}, {"p(@S) :- q(@S,X), S := a", ""}, {"p(@S) :- q(@S,X), X := (X+1)", ""}, {"p(@S) :- Y := 1, Y := 1, q(@S,X)", ""}, {"p(@S) :- Y := 1, Y := 2, q(@S,X)", ""}, {"p(@S,Y) :- q(@S,X), Y := 1, q(@S,Z), Y := 2", ""}, {"p(@S,Y) :- Y := 3, q(@S,Y)", "p(a,3):7 p(b,3):3"},
	})
}

func TestHeadF2(t *testing.T) {
	fires(t, known1, [][2]string{
		// An argument has no value.
		{"p(@S,W) :- q(@S,X)", ""}, {"p(@W,X) :- q(@S,X)", ""}, {"p(@S,(X+W)) :- q(@S,X)", ""}, {"p(@S,(X+S)) :- q(@S,X)", ""}, {"p(@S,f_first(X)) :- q(@S,X)", ""}, {"p(@S,f_first(L)) :- z(@S,L)", "p(a,1):8"}, {"p(@S,1,f_rest(L),2) :- z(@S,L)", "p(a,1,[2],2):8"}, {"p(@S,(C+2147483645)) :- l(@S,D,C)", "p(a,2147483646):4 p(b,2147483647):5"},
		// Agg and At count for nothing.
		{"p(@S,min<X>) :- q(@S,X)", "p(a,3):7 p(a,5):2 p(b,3):3"}, {"p(@S,max<X>) :- q(@S,X)", "p(a,3):7 p(a,5):2 p(b,3):3"}, {"p(@S,count<X>,1) :- q(@S,X)", "p(a,3,1):7 p(a,5,1):2 p(b,3,1):3"}, {"p(@S,1,count<D>) :- l(@S,D,C)", "p(a,1,b):4 p(a,1,c):6 p(b,1,a):5"}, {"p(@S,min<W>) :- q(@S,X)", ""},
	})
	r := ruleOf(t, "p(@S,X) :- q(@S,X)")
	for _, r.Agg = range []string{"", "min", "max", "count", "sum", "\xff"} {
		for _, r.At = range []int{0, 1, 2, 9, -1, 1<<63 - 1} {
			r.Label = r.Agg
			if got := telling(Fire(r, rowsOf(t, known1))); got != "p(a,3):7 p(a,5):2 p(b,3):3" {
				t.Errorf("%q at %d: %s", r.Agg, r.At, got)
			}
		}
	}
}

// TestOrdersF2: literals of all kinds, in several orders.
func TestOrdersF2(t *testing.T) {
	const rows = "q(a,1):9 q(a,2):8 q(a,3):7 q(b,2):6 t(a,2):5 t(a,4):4 t(b,3):3 u(a,3):2"
	fires(t, rows, [][2]string{
		{"p(@S,X,Y) :- q(@S,X), Y := (X+1), !u(@S,Y), X < 3, !none(@S)", "p(a,1,2):9 p(b,2,3):6"}, {"p(@S,X,Y) :- q(@S,X), X < 3, Y := (X+1), !u(@S,Y), t(@S,Y)", "p(a,1,2):5 p(b,2,3):3"}, {"p(@S,X,Y) :- X := 2, q(@S,X), t(@S,Y), Y != 2, !u(@S,Y)", "p(a,2,4):4 p(b,2,3):3"}, {"p(@S,X,Y) :- t(@S,Y), !u(@S,Y), q(@S,X), (X*2) == Y", "p(a,1,2):5 p(a,2,4):4"}, {"p(@S,X,Y) :- t(@S,Y), !q(@S,Y), X := (Y-1), q(@S,X)", "p(a,3,4):4 p(b,2,3):3"}, {"p(@S,X,Y) :- !u(@S,9), t(@S,Y), X := f_cons(Y,[]), f_first(X) < 4, q(@S,Y)", "p(a,[2],2):5"},
		{"p(@S) :- !u(@S,X), q(@S,X)", ""}, {"p(@S) :- q(@S,X), t(@S,(X+1)), !u(@S,X)", "p(a):5 p(b):3"}, {"p(@S) :- q(@S,X), t(@S,(X+1)), !u(@S,(X+1)), 1 <= X, Z := 1, Z == 1", "p(a):5 p(b):3"}, {"p(@S) :- 2 < 1, q(@S,X)", ""}, {"p(@S) :- q(@S,X), 2 < 1", ""}, {"p(@S) :- q(@S,X), !q(@S,X), Y := 1", ""},
	})
}

// TestNoKindF2: there is no way past what is no literal, nor past a test that there is not.
func TestNoKindF2(t *testing.T) {
	l := rowsOf(t, known1)
	for _, s := range []string{"p(@a) :- q(@a,X)", "p(@a) :- !q(@a,9)", "p(@a) :- 1 < 2", "p(@a) :- X := 1"} {
		whole := ruleOf(t, s).Body[0]
		for _, kind := range []int{0, 5, -1, 1<<32 + 1, 1<<63 - 1, -1 << 63} {
			odd := whole
			odd.Kind = kind
			for _, body := range [][]api.Literal{{odd}, {whole, odd}, {odd, whole}, {atom("q", v("S"), v("Y")), odd}} {
				if got := Fire(api.Rule{Head: "p", Args: []api.Term{c(addr("a"))}, Body: body}, l); len(got) > 0 {
					t.Errorf("%s, as kind %d: %s", s, kind, telling(got))
				}
			}
		}
	}
	for _, name := range []string{"", "=", "=<", "=>", "<>", "===", " ==", "== ", "<\x00", "+", "q", "f_member", "X", "\xff"} {
		r := ruleOf(t, "p(@S) :- q(@S,X), X == X")
		r.Body[1].Name = name
		if got := Fire(r, l); len(got) > 0 {
			t.Errorf("%q: %s", name, telling(got))
		}
	}
}

// TestCountsF2: a test is of both terms, and what is set is one term's.
func TestCountsF2(t *testing.T) {
	l := rowsOf(t, known1)
	for n := range 5 {
		for _, x := range []struct {
			kind, takes int
			name        string
		}{{api.LitTest, 2, "=="}, {api.LitTest, 2, "<="}, {api.LitAssign, 1, "Y"}} {
			odd := api.Literal{Kind: x.kind, Name: x.name, Args: slices.Repeat([]api.Term{v("X")}, n)}
			r := api.Rule{Head: "p", Args: []api.Term{v("S")}, Body: []api.Literal{atom("q", v("S"), v("X")), odd}}
			want := ""
			if n == x.takes {
				want = "p(a):7 p(b):3"
			}
			if got := telling(Fire(r, l)); got != want {
				t.Errorf("%s of %d: %s", x.name, n, got)
			}
		}
	}
	none := []api.Row{{Name: "q", Stamp: 4}, {Stamp: 3}}
	for _, x := range []struct {
		name, want string
	}{{"q", "p():4"}, {"", "p():3"}, {"t", ""}} {
		if got := telling(Fire(api.Rule{Head: "p", Body: []api.Literal{atom(x.name)}}, none)); got != x.want {
			t.Errorf("an atom of no arguments, of %q: %s", x.name, got)
		}
		not := api.Literal{Kind: api.LitNot, Name: x.name}
		if got := Fire(api.Rule{Head: "p", Body: []api.Literal{not}}, none); (len(got) == 0) != (x.want != "") {
			t.Errorf("that there is none of no arguments, of %q: %s", x.name, telling(got))
		}
	}
}

// TestWrongNamesF2: names need not be right.
func TestWrongNamesF2(t *testing.T) {
	for _, name := range []string{"", "Q", "q r", "f_size", "materialize", "\xff", "q\x00", strings.Repeat("q", 1000)} {
		l := []api.Row{{Name: name, Args: []api.Value{num(1)}, Stamp: 5}, {Name: name + "x", Args: []api.Value{num(2)}, Stamp: 6}, {Name: "q", Args: []api.Value{num(3)}, Stamp: 7}}
		for _, variable := range []string{"X", "", "x", "\xff"} {
			r := api.Rule{Head: name, Args: []api.Term{v(variable)}, Body: []api.Literal{atom(name, v(variable)), {Kind: api.LitNot, Name: name + "y", Args: []api.Term{v(variable)}}}}
			if got := Fire(r, l); !sameRows(got, []api.Row{{Name: name, Args: []api.Value{num(1)}, Stamp: 5}}) {
				t.Errorf("%q of %q: %s", name, variable, telling(got))
			}
			r.Body = []api.Literal{{Kind: api.LitAssign, Name: variable, Args: []api.Term{c(num(4))}}}
			if got := Fire(r, nil); !sameRows(got, []api.Row{{Name: name, Args: []api.Value{num(4)}, Stamp: api.Forever}}) {
				t.Errorf("%q, set: %s", variable, telling(got))
			}
		}
	}
}

// TestWrongValuesEnd: nothing is promised of values that are not right, but that calls end.
func TestWrongValuesEnd(t *testing.T) {
	deep := list()
	for range 1<<16 - 1 {
		deep = list(deep)
	}
	wrongs := []api.Value{{}, {Kind: 5, Text: "a", List: []api.Value{num(1)}}, {Kind: -1}, num(-1 << 63), text(`"`), addr("A"), addr("\xff"), {Kind: api.Int, Int: 1, List: []api.Value{num(1)}}, {Kind: api.List, Int: 1, Text: "a"}, list(api.Value{}), list(slices.Repeat([]api.Value{num(1)}, 17)...), deep, list(deep, num(1))}
	var l []api.Row
	for i, x := range wrongs {
		l = append(l, api.Row{Name: "q", Args: []api.Value{addr("a"), x}, Stamp: i}, api.Row{Name: "q", Args: []api.Value{x}, Stamp: i}, api.Row{Name: "q", Args: []api.Value{x, num(1)}, Stamp: i})
	}
	Merge(l)
	for _, s := range []string{"p(@S,X) :- q(@S,X)", "p(@X) :- q(@X), !q(@a,X)", "p(@S,Y) :- q(@S,X), Y := f_cons(X,[])", "p(@X) :- q(@X), X == X", "p(@S,X) :- q(@S,X), q(@X)"} {
		Fire(ruleOf(t, s), l)
	}
	for _, x := range wrongs {
		r := ruleOf(t, "p(@S,X) :- q(@S,1)")
		r.Args[1], r.Body[0].Args[1] = c(x), c(x)
		Fire(r, l)
	}
}

// TestLongBodiesF2: a body that is not right may be of any length, and so may arguments be.
func TestLongBodiesF2(t *testing.T) {
	const n = 1500000
	l := rowsOf(t, "q(a):5 t(a,1):4 t(a,2):6 t(b,3):7")
	body := slices.Repeat([]api.Literal{atom("q", v("S")), {Kind: api.LitNot, Name: "none"}, {Kind: api.LitTest, Name: "==", Args: []api.Term{v("S"), v("S")}}}, n/3)
	r := api.Rule{Head: "p", Args: []api.Term{v("S")}, Body: body}
	if got := telling(Fire(r, l)); got != "p(a):5" {
		t.Error(got)
	}
	r.Body[n-1].Name = "!="
	if got := telling(Fire(r, l)); got != "" {
		t.Error("at its end it does not hold:", got)
	}
	// Ways part at the first one of them, and each goes on to the end.
	r.Args, r.Body = []api.Term{v("S"), v("X")}, append([]api.Literal{atom("t", v("S"), v("X"))}, slices.Repeat(body[:2], 1000)...)
	if got := telling(Fire(r, l)); got != "p(a,1):4 p(a,2):5" {
		t.Error("several ways:", got)
	}
	r.Args, r.Body = slices.Repeat([]api.Term{v("S")}, 1000), body[:1]
	if got := Fire(r, l); len(got) != 1 || len(got[0].Args) != 1000 || got[0].Stamp != 5 {
		t.Error("a long head:", len(got))
	}
}

// TestManyPartingsF2: ways part at each of many places, and all but one end there.
func TestManyPartingsF2(t *testing.T) {
	l := rowsOf(t, "q(1):5 q(2):4 q(3):6")
	for _, keeps := range []int{1, 2, 3} {
		var body []api.Literal
		for i := range 500 {
			x := v("X" + strconv.Itoa(i))
			body = append(body, atom("q", x), api.Literal{Kind: api.LitTest, Name: "==", Args: []api.Term{x, c(num(keeps))}})
		}
		got := Fire(api.Rule{Head: "p", Args: []api.Term{v("X0"), v("X499")}, Body: body}, l)
		if want := rowsOf(t, "p(1,1):5 p(2,2):4 p(3,3):6")[keeps-1:][:1]; !sameRows(got, want) {
			t.Error(keeps, telling(got))
		}
	}
}

// TestManyWaysF2: many ways to few rows, and to many.
func TestManyWaysF2(t *testing.T) {
	var l []api.Row
	for i := range 60 {
		l = append(l, api.Row{Name: "q", Args: []api.Value{addr("a"), num(i)}, Stamp: i * 17 % 60})
	}
	if got := telling(Fire(ruleOf(t, "p(@S) :- q(@S,X), q(@S,Y), q(@S,Z)"), l)); got != "p(a):59" {
		t.Error("to one:", got)
	}
	got := Fire(ruleOf(t, "p(@S,X,Y) :- q(@S,X), q(@S,Y), q(@S,Z)"), l)
	var want []api.Row
	for x := range 60 {
		for y := range 60 {
			want = append(want, api.Row{Name: "p", Args: []api.Value{addr("a"), num(x), num(y)}, Stamp: min(x*17%60, y*17%60)})
		}
	}
	if !sameRows(got, want) {
		t.Error("to many:", len(got))
	}
}

// TestDrawnF2: of drawn rules, right ones and others, what follows is what follows told another way.
func TestDrawnF2(t *testing.T) {
	d := &drawer{seed: 12}
	some, none := 0, 0
	for i := range 12000 {
		var r api.Rule
		if i%3 == 0 {
			r = d.wild(t)
		} else {
			r = d.rule(t, d.literal)
		}
		l := d.rows(t, 16)
		got, want := Fire(r, l), firedRows(r, l)
		if !sameRows(got, want) {
			t.Fatalf("%v of %s: %s, not %s", r, telling(l), telling(got), telling(want))
		}
		if len(got) > 0 {
			some++
		} else {
			none++
		}
	}
	if some < 1500 || none < 1500 {
		t.Error("too few of one kind:", some, none)
	}
}
