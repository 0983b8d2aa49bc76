package group

import (
	"encoding/binary"
	"maps"
	"slices"
	"strconv"
	"strings"
	"testing"

	"beaconry/api"
	"beaconry/parser"
	"beaconry/value"
)

func num(n int) api.Value { return api.Value{Kind: api.Int, Int: n} }

func addr(s string) api.Value { return api.Value{Kind: api.Addr, Text: s} }

func list(l ...api.Value) api.Value { return api.Value{Kind: api.List, List: l} }

func ruleOf(t *testing.T, s string) api.Rule {
	t.Helper()
	p, e, at := parser.Parse("r " + s + ".")
	if e != api.OK || len(p.Rules) != 1 {
		t.Fatalf("%s: %d at %d", s, e, at)
	}
	return p.Rules[0]
}

// rowsOf reads rows, as q(a,3):7 t(b,[]):forever, the stamp being the number behind the colon.
func rowsOf(t *testing.T, s string) []api.Row {
	t.Helper()
	var out []api.Row
	for _, x := range strings.Fields(s) {
		told, stamp, _ := strings.Cut(x, "):")
		name, args, _ := strings.Cut(told, "(")
		n, err := strconv.Atoi(strings.Replace(stamp, "forever", strconv.Itoa(api.Forever), 1))
		if err != nil {
			t.Fatal(x, err)
		}
		row := api.Row{Name: name, Stamp: n}
		if args != "" {
			for _, y := range ruleOf(t, "p(@S,"+args+") :- q(@S)").Args[1:] {
				row.Args = append(row.Args, y.Value)
			}
		}
		out = append(out, row)
	}
	return out
}

// telling is how rowsOf would read them.
func telling(l []api.Row) string {
	var out []string
	for _, r := range l {
		var args []string
		for _, x := range r.Args {
			args = append(args, value.Print(x))
		}
		stamp := strings.Replace(strconv.Itoa(r.Stamp), strconv.Itoa(api.Forever), "forever", 1)
		out = append(out, r.Name+"("+strings.Join(args, ",")+"):"+stamp)
	}
	return strings.Join(out, " ")
}

// same tells whether two values are the same, right ones or not, lists without elements being alike.
func same(a, b api.Value) bool {
	return a.Kind == b.Kind && a.Int == b.Int && a.Text == b.Text && slices.EqualFunc(a.List, b.List, same)
}

func sameRows(a, b []api.Row) bool {
	return slices.EqualFunc(a, b, func(x, y api.Row) bool {
		return x.Name == y.Name && x.Stamp == y.Stamp && slices.EqualFunc(x.Args, y.Args, same)
	})
}

// keyOf is bytes that stand in the order in which right values do, by chapter 1.
func keyOf(x api.Value) string {
	switch x.Kind {
	case api.Int:
		return string(binary.BigEndian.AppendUint64([]byte{api.Int}, uint64(x.Int)+1<<63))
	case api.List:
		return "\x04" + keysOf(x.List)
	}
	return string(rune(x.Kind)) + x.Text + "\x00"
}

// keysOf has an end that is less than what goes on.
func keysOf(l []api.Value) string {
	out := ""
	for _, x := range l {
		out += "\x01" + keyOf(x)
	}
	return out + "\x00"
}

func keyOfRow(r api.Row) string { return r.Name + "\x00" + keysOf(r.Args) }

// keyBut is the same of rows that are alike but for at.
func keyBut(at int, r api.Row) string {
	r.Args = slices.Clone(r.Args)
	r.Args[at] = api.Value{}
	return keyOfRow(r)
}

// inWay has rows in the way of chapter 10's Merge, told another way: they stand in a map by their keys.
func inWay(l []api.Row) []api.Row {
	by := map[string]api.Row{}
	for _, r := range l {
		if had, is := by[keyOfRow(r)]; is {
			r.Stamp = max(r.Stamp, had.Stamp)
		}
		by[keyOfRow(r)] = r
	}
	var out []api.Row
	for _, key := range slices.Sorted(maps.Keys(by)) {
		out = append(out, by[key])
	}
	return out
}

// having are the rows that have an argument at a place.
func having(at int, l []api.Row) []api.Row {
	return slices.DeleteFunc(slices.Clone(l), func(r api.Row) bool { return at < 0 || at >= len(r.Args) })
}

// setsOf are the rows, as they come, by what all of a set have beside at.
func setsOf(at int, l []api.Row) map[string][]api.Row {
	out := map[string][]api.Row{}
	for _, r := range having(at, l) {
		out[keyBut(at, r)] = append(out[keyBut(at, r)], r)
	}
	return out
}

// groupedRows is what G1 asks for, told another way: of each set a map of what its rows have at that place, by its key.
func groupedRows(agg string, at int, l []api.Row) []api.Row {
	if at < 1 || agg != "min" && agg != "max" && agg != "count" {
		return nil
	}
	var out []api.Row
	for _, set := range setsOf(at, l) {
		row := api.Row{Name: set[0].Name, Args: slices.Clone(set[0].Args), Stamp: set[0].Stamp}
		there := map[string]api.Value{}
		for _, r := range set {
			there[keyOf(r.Args[at])] = r.Args[at]
			row.Stamp = max(row.Stamp, r.Stamp)
		}
		keys := slices.Sorted(maps.Keys(there))
		switch agg {
		case "min":
			row.Args[at] = there[keys[0]]
		case "max":
			row.Args[at] = there[keys[len(keys)-1]]
		case "count":
			row.Args[at] = num(len(keys))
		}
		out = append(out, row)
	}
	return inWay(out)
}

// drawer draws out of few names and values, so that sames are among them.
type drawer struct{ seed uint32 }

func (d *drawer) below(k int) int {
	d.seed = d.seed*1664525 + 1013904223
	return int(d.seed>>16) % k
}

func (d *drawer) of(words string) string {
	l := strings.Fields(words)
	return l[d.below(len(l))]
}

// row has three arguments, most times.
func (d *drawer) row() string {
	args := d.of("a a b") + "," + d.of(`1 1 2 a "1" [1]`) + "," + d.of(`-1 0 1 2 3 10 a b ab "" "1" "a" [] [1] [2,a] [[1]]`)
	switch d.below(12) {
	case 0:
		args = d.of("a b")
	case 1:
		args = "a," + d.of("1 2 3")
	case 2:
		args += "," + d.of("1 2")
	}
	return d.of("p p p p q pp") + "(" + args + "):" + d.of("-3 0 1 2 3 4 5 6 7 8 9 forever")
}

func (d *drawer) rows(t *testing.T, most int) []api.Row {
	t.Helper()
	var out []string
	for range d.below(most + 1) {
		out = append(out, d.row())
	}
	return rowsOf(t, strings.Join(out, " "))
}

// shuffled is the same rows in another order, as it comes, some of them twice.
func (d *drawer) shuffled(l []api.Row) []api.Row {
	out := slices.Clone(l)
	for range d.below(len(l) + 1) {
		out = append(out, l[d.below(len(l))])
	}
	for i := range out {
		k := i + d.below(len(out)-i)
		out[i], out[k] = out[k], out[i]
	}
	return out
}

func (d *drawer) agg() string { return d.of("min max count") }

// rule is of p and q, and of what they have there.
func (d *drawer) rule(t *testing.T) api.Rule {
	t.Helper()
	head := d.of("best p") + "(@" + d.of("S S S X b") + "," + d.of("X Y 1 (X*X) f_size(Y)") + "," + d.of("X Y Y f_cons(X,[])") + ")"
	body := d.of("p p q") + "(@S,X,Y), " + d.of("X==X p(@S,X,Z) q(@T,X,Z) X!=Y !q(@S,X,Y) X<Y,p(@T,Y,Z)")
	r := ruleOf(t, head+" :- "+body)
	r.Agg, r.At = d.agg(), 1+d.below(2)
	switch d.below(8) {
	case 0:
		r.Agg = []string{"sum", "MIN", " "}[d.below(3)]
	case 1:
		r.At = []int{-1, 0, 3, 1 << 40}[d.below(4)]
	case 2:
		r.Agg = ""
	}
	return r
}
