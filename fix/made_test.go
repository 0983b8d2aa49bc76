package fix

import (
	"encoding/binary"
	"maps"
	"slices"
	"strconv"
	"strings"
	"testing"

	"beaconry/api"
	"beaconry/group"
	"beaconry/parser"
	"beaconry/strata"
	"beaconry/value"
)

const declared = "materialize(link,3). materialize(o,1). materialize(p,2). materialize(q,2). materialize(r,2). materialize(s,2). materialize(t,2).\n"

func num(n int) api.Value { return api.Value{Kind: api.Int, Int: n} }

func addr(s string) api.Value { return api.Value{Kind: api.Addr, Text: s} }

func text(s string) api.Value { return api.Value{Kind: api.Text, Text: s} }

func list(l ...api.Value) api.Value { return api.Value{Kind: api.List, List: l} }

func parsed(t *testing.T, s string) api.Program {
	t.Helper()
	p, e, at := parser.Parse(s)
	if e != api.OK {
		t.Fatalf("%s: %d at %d", s, e, at)
	}
	return p
}

// programOf reads rules, each without its label and its point, the relations being the declared ones.
func programOf(t *testing.T, rules ...string) api.Program {
	t.Helper()
	out := declared
	for _, x := range rules {
		out += "rule " + x + ".\n"
	}
	return parsed(t, out)
}

// valuesOf are read out of a text, seven at most.
func valuesOf(t *testing.T, s string) []api.Value {
	t.Helper()
	var out []api.Value
	if s != "" {
		for _, x := range parsed(t, "r p(@S,"+s+") :- q(@S).").Rules[0].Args[1:] {
			out = append(out, x.Value)
		}
	}
	return out
}

// rowsOf reads rows, as q(a,3):7 t(b,[]):forever, the stamp being the number behind the colon.
func rowsOf(t *testing.T, s string) []api.Row {
	t.Helper()
	var out []api.Row
	for _, x := range strings.Fields(s) {
		told, stamp, _ := strings.Cut(x, "):")
		name, args, _ := strings.Cut(told, "(")
		n, err := strconv.Atoi(strings.Replace(stamp, "forever", strconv.Itoa(api.Forever), 1))
		if err != nil {
			t.Fatal(x, err)
		}
		out = append(out, api.Row{Name: name, Args: valuesOf(t, args), Stamp: n})
	}
	return out
}

// telling is how rowsOf would read them.
func telling(l []api.Row) string {
	var out []string
	for _, r := range l {
		var args []string
		for _, x := range r.Args {
			args = append(args, value.Print(x))
		}
		stamp := strings.Replace(strconv.Itoa(r.Stamp), strconv.Itoa(api.Forever), "forever", 1)
		out = append(out, r.Name+"("+strings.Join(args, ",")+"):"+stamp)
	}
	return strings.Join(out, " ")
}

// same tells whether two values are the same, right ones or not, lists without elements being alike.
func same(a, b api.Value) bool {
	return a.Kind == b.Kind && a.Int == b.Int && a.Text == b.Text && slices.EqualFunc(a.List, b.List, same)
}

func sameRows(a, b []api.Row) bool {
	return slices.EqualFunc(a, b, func(x, y api.Row) bool {
		return x.Name == y.Name && x.Stamp == y.Stamp && slices.EqualFunc(x.Args, y.Args, same)
	})
}

// keyOf is bytes that stand in the order in which right values do, by chapter 1.
func keyOf(x api.Value) string {
	switch x.Kind {
	case api.Int:
		return string(binary.BigEndian.AppendUint64([]byte{api.Int}, uint64(x.Int)+1<<63))
	case api.List:
		return "\x04" + keysOf(x.List)
	}
	return string(rune(x.Kind)) + x.Text + "\x00"
}

// keysOf has an end that is less than what goes on.
func keysOf(l []api.Value) string {
	out := ""
	for _, x := range l {
		out += "\x01" + keyOf(x)
	}
	return out + "\x00"
}

func keyOfRow(r api.Row) string { return r.Name + "\x00" + keysOf(r.Args) }

// world is rows by their keys, each with its greatest stamp.
type world map[string]api.Row

func worldOf(l []api.Row) world {
	w := world{}
	w.put(l)
	return w
}

// put tells whether it changes anything.
func (w world) put(l []api.Row) bool {
	changed := false
	for _, r := range l {
		key := keyOfRow(r)
		if had, is := w[key]; !is || had.Stamp < r.Stamp {
			w[key] = r
			changed = true
		}
	}
	return changed
}

// rows are in the order of their keys, which is that of chapter 10's Merge.
func (w world) rows() []api.Row {
	var out []api.Row
	for _, key := range slices.Sorted(maps.Keys(w)) {
		out = append(out, w[key])
	}
	return out
}

// rowsAt are those of which it is so that they are at a place, or not.
func (w world) rowsAt(place string, is bool) []api.Row {
	var out []api.Row
	for _, r := range w.rows() {
		if here := len(r.Args) > 0 && keyOf(r.Args[0]) == keyOf(addr(place)); here == is {
			out = append(out, r)
		}
	}
	return out
}

// strataOf are a program's rules, by their heads' numbers; false: there are no numbers.
func strataOf(p api.Program) ([][]api.Rule, bool) {
	numbers, e := strata.Strata(p)
	out := make([][]api.Rule, api.MaxRules+1)
	for i, d := range p.Decls {
		if e == api.OK {
			out[numbers[i]] = append(out[numbers[i]], rulesOf(p, d.Name)...)
		}
	}
	return out, e == api.OK
}

func rulesOf(p api.Program, head string) []api.Rule {
	return slices.DeleteFunc(slices.Clone(p.Rules), func(r api.Rule) bool { return r.Head != head })
}

// worldRounds is what K1 asks of strata and rounds, told another way: what read tells of a map of rows is gone on from; it tells whether there are no more than most.
func worldRounds(w world, all [][]api.Rule, most int, read func() []api.Row) bool {
	for _, rules := range all {
		for changed := true; changed; {
			if len(w) > most {
				return false
			}
			var come []api.Row
			for _, r := range slices.Backward(rules) {
				come = append(come, group.Rule(r, read())...)
			}
			changed = w.put(come)
		}
	}
	return len(w) <= most
}

func upTo(most int, l []api.Row) []api.Row { return l[:min(len(l), most)] }

// fixed is what K1 asks for, told another way.
func fixed(p api.Program, base []api.Row, most int) ([]api.Row, bool) {
	all, ok := strataOf(p)
	if !ok {
		return nil, false
	}
	w, most := worldOf(base), max(most, 0)
	whole := worldRounds(w, all, most, w.rows)
	return upTo(most, w.rows()), whole
}

// fixedAt is what K2 asks for, told another way.
func fixedAt(p api.Program, base []api.Row, place string, most int) (here, others []api.Row, whole bool) {
	all, ok := strataOf(p)
	if !ok {
		return nil, nil, false
	}
	w, most := worldOf(base), max(most, 0)
	if !worldRounds(w, all, most, func() []api.Row { return w.rowsAt(place, true) }) {
		return upTo(most, w.rowsAt(place, true)), nil, false
	}
	return w.rowsAt(place, true), w.rowsAt(place, false), true
}

// drawer draws out of few names and values, so that sames are among them.
type drawer struct{ seed uint32 }

func (d *drawer) below(k int) int {
	d.seed = d.seed*1664525 + 1013904223
	return int(d.seed>>16) % k
}

func (d *drawer) of(words string) string {
	l := strings.Fields(words)
	return l[d.below(len(l))]
}

// row is of a relation with two arguments, or with one or three, most times.
func (d *drawer) row() string {
	args := d.of("a a a b c") + "," + d.of(`a a b b c 1 1 2 3 [] [1] "a"`)
	name := d.of("p q q t t t r s link link o none")
	switch name {
	case "link":
		args = d.of("a a a b c") + "," + d.of("a b c c") + "," + d.of("1 2")
	case "o":
		args = d.of("a b c")
	}
	switch d.below(24) {
	case 0:
		args = d.of(`1 "a" [a] []`) + "," + d.of("a 1")
	case 1:
		args = d.of("a b")
	case 2:
		args = ""
	}
	return name + "(" + args + "):" + d.of("-3 0 1 2 3 4 5 6 7 8 9 forever")
}

func (d *drawer) rows(t *testing.T, most int) []api.Row {
	t.Helper()
	var out []string
	for range d.below(most + 1) {
		out = append(out, d.row())
	}
	return rowsOf(t, strings.Join(out, " "))
}

// kind is what a drawn program may have: LitNots and aggregates, rules without an atom, heads elsewhere.
type kind struct{ not, free, away bool }

var anyKind = kind{not: true, free: true, away: true}

const order = "p q r s"

// rule reads at S alone, relations that stand in that order ahead of its head, and its head's own, most times.
func (d *drawer) rule(k kind) string {
	if k.free && d.below(12) == 0 {
		return d.of(order) + "(" + d.of("@a @b") + "," + d.of("X 1 b") + ") :- X := " + d.of("1 2 b (1+2)")
	}
	head := d.of(order)
	ahead := "t t t " + order[:strings.Index(order, head)]
	reads := ahead + " " + head
	if d.below(5) == 0 {
		reads = "t " + order
	}
	body := []string{"link(@S,X,Y)"}
	if d.below(3) > 0 {
		body = []string{d.of(reads) + "(@S,X)", d.of(reads) + "(@S,Y)"}
	}
	if d.below(3) == 0 {
		body = append(body, d.of(reads)+"(@S,"+d.of("X Y a 1 (X+1)")+")")
	}
	if d.below(3) == 0 {
		body = append(body, d.of("X!=Y X<Y Y==1 X!=[] S<X o(@S) link(@S,Y,1)"))
	}
	if k.not && d.below(3) == 0 {
		body = append(body, "!"+d.of(ahead)+"(@S,"+d.of("X Y a 1 (X+1)")+")")
	}
	last := d.of("X X X Y Y 1 b")
	if d.below(4) == 0 {
		body, last = append(body, "Z := "+d.of("(X+1) (X*Y) f_cons(X,[]) Y"), d.of("Z<6 X==X")), "Z"
	}
	if k.not && d.below(4) == 0 {
		last = d.of("min<X> max<Y> count<X> count<Y> min<Y>")
	}
	at := "@S"
	if k.away && d.below(4) == 0 {
		at = d.of("@X @Y @b @a")
	}
	return head + "(" + at + "," + last + ") :- " + strings.Join(body, ", ")
}

// program has strata, most times.
func (d *drawer) program(t *testing.T, k kind) api.Program {
	t.Helper()
	var rules []string
	for range d.below(7) {
		rules = append(rules, d.rule(k))
	}
	return programOf(t, rules...)
}

// layered is a program that has strata.
func (d *drawer) layered(t *testing.T, k kind) api.Program {
	t.Helper()
	for {
		p := d.program(t, k)
		if _, ok := strataOf(p); ok {
			return p
		}
	}
}

// shuffled is the same rows in another order, as it comes.
func (d *drawer) shuffled(l []api.Row) []api.Row {
	out := slices.Clone(l)
	for i := range out {
		k := i + d.below(len(out)-i)
		out[i], out[k] = out[k], out[i]
	}
	return out
}
