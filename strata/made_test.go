package strata

import (
	"regexp"
	"slices"
	"strings"
	"testing"

	"beaconry/api"
	"beaconry/parser"
	"beaconry/printer"
)

const declared = "materialize(p,2). materialize(q,2). materialize(t,2). materialize(u,2). materialize(link,3).\n"

func parsed(t *testing.T, s string) api.Program {
	t.Helper()
	p, e, at := parser.Parse(s)
	if e != api.OK {
		t.Fatalf("%s: %d at %d", s, e, at)
	}
	return p
}

// copied shares no memory with what it is made of.
func copied(t *testing.T, p api.Program) api.Program {
	t.Helper()
	return parsed(t, printer.Print(p))
}

var (
	text     = regexp.MustCompile(`"[^"]*"`)
	ruleHead = regexp.MustCompile(`^\w+ (\w+)\(@[^ ]*`)
	bodyRead = regexp.MustCompile(`(!?)(\w+)\(@`)
	counted  = regexp.MustCompile(`,(min|max|count)<`)
)

// hold is that a relation, by its number, hangs on another one.
type hold struct {
	head, on int
	strictly bool
}

// holds are told by the texts of a program's rules alone.
func holds(p api.Program) []hold {
	var out []hold
	for _, r := range p.Rules {
		head, body, _ := strings.Cut(text.ReplaceAllString(printer.Rule(r), ""), " :- ")
		for _, m := range bodyRead.FindAllStringSubmatch(body, -1) {
			out = append(out, hold{numberOf(p, ruleHead.FindStringSubmatch(head)[1]), numberOf(p, m[2]), m[1] == "!" || counted.MatchString(head)})
		}
	}
	return out
}

func numberOf(p api.Program, name string) int {
	return slices.IndexFunc(p.Decls, func(d api.Decl) bool { return d.Name == name })
}

// may tells whether these are numbers by which no relation is too low.
func may(numbers []int, l []hold) bool {
	for _, h := range l {
		if numbers[h.head] < numbers[h.on] || h.strictly && numbers[h.head] == numbers[h.on] {
			return false
		}
	}
	return true
}

// least is what T1 asks for, told another way: of all numbers up to most those that may be, and of these, of each relation, the least ones. There are none if none may be.
func least(t *testing.T, n, most int, l []hold) []int {
	t.Helper()
	var out []int
	numbers := make([]int, n)
	for more := true; more; more = next(numbers, most) {
		if !may(numbers, l) {
			continue
		}
		if out == nil {
			out = slices.Clone(numbers)
		}
		for i, x := range numbers {
			out[i] = min(out[i], x)
		}
	}
	if out != nil && !may(out, l) {
		t.Fatal("least numbers of relations are none together:", l)
	}
	return out
}

// next goes on to other numbers; false: it was the last ones.
func next(numbers []int, most int) bool {
	for i := range numbers {
		if numbers[i]++; numbers[i] <= most {
			return true
		}
		numbers[i] = 0
	}
	return false
}

// reached are, of each two relations, the ways that there are from one to the other over what they hang on: 0 none, 1 without a strict step, 2 with one.
func reached(n int, l []hold) [][]int {
	out := make([][]int, n)
	for i := range out {
		out[i] = make([]int, n)
	}
	for _, h := range l {
		way := 1
		if h.strictly {
			way = 2
		}
		out[h.head][h.on] = max(out[h.head][h.on], way)
	}
	for over := range n {
		for from := range n {
			for to := range n {
				if out[from][over] > 0 && out[over][to] > 0 {
					out[from][to] = max(out[from][to], out[from][over], out[over][to])
				}
			}
		}
	}
	return out
}

// dice is numbers below what is asked, the same ones each time.
func dice() func(int) int {
	seed := uint32(8)
	return func(k int) int {
		seed = seed*1664525 + 1013904223
		return int(seed>>16) % k
	}
}

// shuffled puts a list in another order.
func shuffled[T any](roll func(int) int, l []T) []T {
	out := slices.Clone(l)
	for i := range out {
		k := i + roll(len(out)-i)
		out[i], out[k] = out[k], out[i]
	}
	return out
}

// drawer draws texts of programs; now and then there is something wrong, if it is wild.
type drawer struct {
	roll func(int) int
	wild bool
}

func (d drawer) of(l ...string) string { return l[d.roll(len(l))] }

func (d drawer) word(words string) string { return d.of(strings.Fields(words)...) }

// program has relations that hang on one another as it comes, or each on those behind it in some order, and now and then on itself, so that there are high numbers, too.
func (d drawer) program() string {
	s := declared
	relations := shuffled(d.roll, []string{"p", "q", "t", "u"})
	loose := d.roll(3) == 0
	for range d.roll(7) {
		i := d.roll(len(relations))
		reads := relations[i+1:]
		if loose {
			reads = relations
		}
		s += "r " + d.rule(relations[i], reads) + ".\n"
	}
	return s
}

// rule reads at S alone, and S, X and Y are bound: but for what is wrong.
func (d drawer) rule(head string, reads []string) string {
	body := d.atom(reads, "X") + ", link(@S,Y,X)"
	if d.roll(6) == 0 {
		body += ", " + head + "(@S,Y)"
	}
	for range d.roll(3) {
		body += ", " + d.literal(reads)
	}
	last := d.word("X X X X X Y min<X> max<Y> count<X>")
	if d.wild {
		last = strings.Replace(last, "Y", d.word("Y Y Y Y Y Y Y Y W"), 1)
		switch d.roll(60) {
		case 0:
			body += ", p(@X,X)"
		case 1:
			body += ", u(@X,Y), u(@Y,X)"
		case 2:
			head, last = "link", "X,Y"
		case 3, 4:
			body += ", Y := 1"
		case 5:
			body += ", w(@S,X)"
		case 6:
			head = "w"
		}
	}
	return head + "(@S," + last + ") :- " + body
}

// atom is of link, if there is nothing else to read.
func (d drawer) atom(reads []string, last string) string {
	if len(reads) == 0 {
		return "link(@S," + last + ",1)"
	}
	return d.of(reads...) + "(@S," + last + ")"
}

func (d drawer) literal(reads []string) string {
	switch d.roll(8) {
	case 0, 1, 2:
		return "!" + d.atom(reads, d.word("X Y 1 (X+Y)"))
	case 3:
		return "!link(@S,Y,X)"
	case 4:
		return d.word("X<1 1==2 X!=\"!p(@S,X)\" S<X")
	}
	return d.atom(reads, d.word("X Y 1 f_size(X)"))
}
