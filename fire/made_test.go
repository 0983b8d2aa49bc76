package fire

import (
	"cmp"
	"encoding/binary"
	"maps"
	"slices"
	"strconv"
	"strings"
	"testing"

	"beaconry/api"
	"beaconry/builtin"
	"beaconry/parser"
	"beaconry/value"
)

func v(name string) api.Term { return api.Term{Kind: api.TermVar, Name: name} }

func c(x api.Value) api.Term { return api.Term{Kind: api.TermValue, Value: x} }

func num(n int) api.Value { return api.Value{Kind: api.Int, Int: n} }

func addr(s string) api.Value { return api.Value{Kind: api.Addr, Text: s} }

func text(s string) api.Value { return api.Value{Kind: api.Text, Text: s} }

func list(l ...api.Value) api.Value { return api.Value{Kind: api.List, List: l} }

func atom(name string, l ...api.Term) api.Literal {
	return api.Literal{Kind: api.LitAtom, Name: name, Args: l}
}

func ruleOf(t *testing.T, s string) api.Rule {
	t.Helper()
	p, e, at := parser.Parse("r " + s + ".")
	if e != api.OK || len(p.Rules) != 1 {
		t.Fatalf("%s: %d at %d", s, e, at)
	}
	return p.Rules[0]
}

// values are read out of a text, seven at most.
func values(t *testing.T, s string) []api.Value {
	t.Helper()
	if s == "" {
		return nil
	}
	var out []api.Value
	for _, x := range ruleOf(t, "p(@S,"+s+") :- q(@S)").Args[1:] {
		if x.Kind != api.TermValue {
			t.Fatalf("%s: no values", s)
		}
		out = append(out, x.Value)
	}
	return out
}

// rowsOf reads rows, as q(a,3):7 t(b,[]):forever, the stamp being the number behind the colon.
func rowsOf(t *testing.T, s string) []api.Row {
	t.Helper()
	var out []api.Row
	for _, x := range strings.Fields(s) {
		told, stamp, _ := strings.Cut(x, "):")
		name, args, _ := strings.Cut(told, "(")
		n, err := strconv.Atoi(strings.Replace(stamp, "forever", strconv.Itoa(api.Forever), 1))
		if err != nil {
			t.Fatal(x, err)
		}
		out = append(out, api.Row{Name: name, Args: values(t, args), Stamp: n})
	}
	return out
}

// telling is how rowsOf would read them.
func telling(l []api.Row) string {
	var out []string
	for _, r := range l {
		var args []string
		for _, x := range r.Args {
			args = append(args, value.Print(x))
		}
		stamp := strconv.Itoa(r.Stamp)
		if r.Stamp == api.Forever {
			stamp = "forever"
		}
		out = append(out, r.Name+"("+strings.Join(args, ",")+"):"+stamp)
	}
	return strings.Join(out, " ")
}

// same tells whether two values are the same, right ones or not, lists without elements being alike.
func same(a, b api.Value) bool {
	return a.Kind == b.Kind && a.Int == b.Int && a.Text == b.Text && slices.EqualFunc(a.List, b.List, same)
}

func sameRow(a, b api.Row) bool {
	return a.Name == b.Name && a.Stamp == b.Stamp && slices.EqualFunc(a.Args, b.Args, same)
}

func sameRows(a, b []api.Row) bool { return slices.EqualFunc(a, b, sameRow) }

// keyOf is bytes that stand in the order in which right values do, by chapter 1.
func keyOf(x api.Value) string {
	out := string(rune(x.Kind))
	switch x.Kind {
	case api.Int:
		return out + string(binary.BigEndian.AppendUint64(nil, uint64(x.Int)+1<<63))
	case api.List:
		return out + keysOf(x.List)
	}
	return out + x.Text + "\x00"
}

// keysOf has an end that is less than what goes on.
func keysOf(l []api.Value) string {
	out := ""
	for _, x := range l {
		out += "\x01" + keyOf(x)
	}
	return out + "\x00"
}

func keyOfRow(r api.Row) string { return r.Name + "\x00" + keysOf(r.Args) }

// mergedRows is what F1 asks for, told another way: rows stand in a map by their keys.
func mergedRows(l []api.Row) []api.Row {
	by := map[string]api.Row{}
	for _, r := range l {
		key := keyOfRow(r)
		if had, is := by[key]; is {
			r.Stamp = max(r.Stamp, had.Stamp)
		}
		by[key] = r
	}
	var out []api.Row
	for _, key := range slices.Sorted(maps.Keys(by)) {
		out = append(out, by[key])
	}
	return out
}

// firedRows is what F2 asks for, told another way: every choice of a row for each atom is tried, from the front to the end.
func firedRows(r api.Rule, l []api.Row) []api.Row {
	all := mergedRows(l)
	var out []api.Row
	choice := make([]int, len(r.Body))
	for {
		if row, ok := followed(r, all, choice); ok {
			out = append(out, row)
		}
		if !nextChoice(r.Body, choice, len(all)) {
			return mergedRows(out)
		}
	}
}

// nextChoice goes on to another one; false: it was the last one.
func nextChoice(body []api.Literal, choice []int, rows int) bool {
	for i, x := range body {
		if x.Kind != api.LitAtom {
			continue
		}
		if choice[i]++; choice[i] < rows {
			return true
		}
		choice[i] = 0
	}
	return false
}

type env map[string]api.Value

func followed(r api.Rule, all []api.Row, choice []int) (api.Row, bool) {
	by, out := env{}, api.Row{Name: r.Head, Stamp: api.Forever}
	for i, x := range r.Body {
		if x.Kind == api.LitAtom {
			if choice[i] >= len(all) || !by.takes(x, all[choice[i]]) {
				return api.Row{}, false
			}
			out.Stamp = min(out.Stamp, all[choice[i]].Stamp)
		} else if !by.passes(x, all) {
			return api.Row{}, false
		}
	}
	for _, x := range r.Args {
		y, ok := by.told(x)
		if !ok {
			return api.Row{}, false
		}
		out.Args = append(out.Args, y)
	}
	return out, true
}

// passes tells whether one comes past what is no atom; it binds what that sets.
func (e env) passes(x api.Literal, all []api.Row) bool {
	switch x.Kind {
	case api.LitNot:
		return !slices.ContainsFunc(all, func(r api.Row) bool { return maps.Clone(e).takes(x, r) })
	case api.LitTest:
		if len(x.Args) != 2 {
			return false
		}
		a, is := e.told(x.Args[0])
		b, also := e.told(x.Args[1])
		return is && also && builtin.Test(x.Name, a, b)
	case api.LitAssign:
		if _, had := e[x.Name]; had || len(x.Args) != 1 {
			return false
		}
		y, ok := e.told(x.Args[0])
		e[x.Name] = y
		return ok
	}
	return false
}

// takes binds variables among the arguments to what the row has, and tells whether it is the row that they ask for.
func (e env) takes(x api.Literal, r api.Row) bool {
	if r.Name != x.Name || len(r.Args) != len(x.Args) {
		return false
	}
	for i, y := range x.Args {
		if _, had := e[y.Name]; y.Kind == api.TermVar && !had {
			e[y.Name] = r.Args[i]
		}
	}
	for i, y := range x.Args {
		if z, ok := e.told(y); !ok || keyOf(z) != keyOf(r.Args[i]) {
			return false
		}
	}
	return true
}

func (e env) told(x api.Term) (api.Value, bool) {
	if x.Kind == api.TermValue {
		return x.Value, true
	}
	if x.Kind == api.TermVar {
		y, ok := e[x.Name]
		return y, ok
	}
	var args []api.Value
	for _, y := range x.Args {
		z, ok := e.told(y)
		if !ok {
			return api.Value{}, false
		}
		args = append(args, z)
	}
	switch {
	case x.Kind == api.TermCall:
		return builtin.Call(x.Name, args)
	case x.Kind == api.TermOp && len(args) == 2:
		return builtin.Op(x.Name, args[0], args[1])
	}
	return api.Value{}, false
}

// drawer draws out of few names and values, so that sames are among them.
type drawer struct{ seed uint32 }

func (d *drawer) below(k int) int {
	d.seed = d.seed*1664525 + 1013904223
	return int(d.seed>>16) % k
}

func (d *drawer) of(words string) string {
	l := strings.Fields(words)
	return l[d.below(len(l))]
}

func (d *drawer) several(most int, one func() string) string {
	var out []string
	for range 1 + d.below(most) {
		out = append(out, one())
	}
	return strings.Join(out, ", ")
}

func (d *drawer) value() string { return d.of(`a b 1 1 1 1 2 2 2 3 3 0 [] [1] [2,a] "1"`) }

// row is of q or t, with two arguments, most times.
func (d *drawer) row() string {
	name, args := d.of("q q q t t t u"), d.of("a a a b")+","+d.value()
	switch d.below(20) {
	case 0:
		name = d.of("p qq tt none")
	case 1:
		args = d.of("a b")
	case 2:
		args += "," + d.value()
	}
	return name + "(" + args + "):" + d.of("-3 0 1 2 3 4 5 6 7 8 9 forever")
}

func (d *drawer) rows(t *testing.T, most int) []api.Row {
	t.Helper()
	var out []string
	for range d.below(most + 1) {
		out = append(out, d.row())
	}
	return rowsOf(t, strings.Join(out, " "))
}

func (d *drawer) term() string {
	switch d.below(12) {
	case 0, 1:
		return "(" + d.of("X X X Y") + d.of("+ - *") + d.of("1 2 X X Y") + ")"
	case 2:
		return d.of("f_size(X) f_first(X) f_cons(X,[]) f_cons(Y,Z) f_reverse(Z)")
	case 3, 4:
		return d.value()
	}
	return d.of("X X X X X Y Y Z")
}

// argument is one that binds, most times.
func (d *drawer) argument() string {
	if d.below(6) == 0 {
		return d.term()
	}
	return d.of("X X Y Y Z S")
}

func (d *drawer) atom() string {
	return d.of("q q q t t t u") + "(@" + d.of("S S S S S D a") + "," + d.argument() + ")"
}

func (d *drawer) literal() string {
	switch d.below(7) {
	case 0:
		return "!" + d.atom()
	case 1:
		return d.term() + " " + d.of("== != < <= > >=") + " " + d.term()
	case 2:
		return d.of("W W W Z Y") + " := " + d.term()
	}
	return d.atom()
}

// rule has three atoms at most, and an atom ahead, most times.
func (d *drawer) rule(t *testing.T, literal func() string) api.Rule {
	t.Helper()
	for {
		body := d.several(3, literal)
		if d.below(8) > 0 {
			body = "q(@S,X), " + body
		}
		r := ruleOf(t, "p(@"+d.of("S S S S S S D b")+","+d.term()+d.of(",X ,X ,X ,Y ,min<X>")+") :- "+body)
		if len(atomsOf(r)) < 4 {
			return r
		}
	}
}

// wild is a rule of which something is not right.
func (d *drawer) wild(t *testing.T) api.Rule {
	t.Helper()
	r := d.rule(t, d.literal)
	x := &r.Body[d.below(len(r.Body))]
	switch d.below(7) {
	case 0:
		x.Kind = d.below(7) - 1
	case 1:
		x.Args = x.Args[:d.below(len(x.Args)+1)]
	case 2:
		x.Args = append(x.Args, v("X"))
	case 3:
		x.Name = d.of("q t < == = / X Y W f_size p")
	case 4:
		x.Args[d.below(len(x.Args))].Kind = d.below(7) - 1
	case 5:
		r.Args[d.below(len(r.Args))].Kind = d.below(7) - 1
	case 6:
		r.Args, r.Body = r.Args[d.below(3):], r.Body[d.below(2):]
	}
	if len(atomsOf(r)) > 3 {
		return d.wild(t)
	}
	return r
}

// atomsOf are the places in a body at which atoms stand.
func atomsOf(r api.Rule) []int {
	var out []int
	for i, x := range r.Body {
		if x.Kind == api.LitAtom {
			out = append(out, i)
		}
	}
	return out
}

// byKey is F1's order, told another way.
func byKey(a, b api.Row) int { return cmp.Compare(keyOfRow(a), keyOfRow(b)) }
