package parser

import (
	"strings"

	"beaconry/api"
)

// chapter is chapter 5's grammar, each repetition as a part of its own; what stands to the left of no arrow is a kind of token.
const chapter = `
program -> | statement program
statement -> materialize ( anyname , int ) . | other ( @ value values ) . | other anyname ( @ term arguments ) :- literal literals .
anyname -> materialize | other
other -> plain | function | agg
notfunction -> materialize | plain | agg
value -> int | - int | text | anyname | [ ] | [ value values ]
values -> | , value values
term -> variable | function ( ) | function ( term terms ) | ( term op term ) | int | - int | text | notfunction | [ ] | [ value values ]
terms -> | , term terms
arguments -> | , term arguments | , agg < variable > terms
op -> + | - | *
literal -> ! anyname ( @ term terms ) | notfunction ( @ term terms ) | variable := term | term comparing term
literals -> | , literal literals
comparing -> == | != | < | <= | > | >=`

func grammar() map[string][][]string {
	out := map[string][][]string{}
	for line := range strings.SplitSeq(strings.TrimSpace(chapter), "\n") {
		name, ways, _ := strings.Cut(line, " ->")
		for way := range strings.SplitSeq(ways, "|") {
			out[name] = append(out[name], strings.Fields(way))
		}
	}
	return out
}

func kindOf(x api.Token) string {
	switch x.Kind {
	case api.TokVar:
		return "variable"
	case api.TokInt:
		return "int"
	case api.TokText:
		return "text"
	case api.TokEnd:
		return "end"
	case api.TokSign:
		return x.Text
	}
	switch x.Text {
	case "materialize":
		return "materialize"
	case "min", "max", "count":
		return "agg"
	case "f_cons", "f_append", "f_concat", "f_member", "f_size", "f_first", "f_last", "f_rest", "f_reverse":
		return "function"
	}
	return "plain"
}

// goOn is what may follow a token, of all that may stand there: ways are lists of what is still to come, told with blanks between.
func goOn(rules map[string][][]string, ways []string, kind string) []string {
	var out []string
	seen := map[string]bool{}
	for len(ways) > 0 {
		way := ways[len(ways)-1]
		ways = ways[:len(ways)-1]
		if seen[way] {
			continue
		}
		seen[way] = true
		first, rest, _ := strings.Cut(way, " ")
		if first == kind {
			out = append(out, rest)
		}
		for _, parts := range rules[first] {
			ways = append(ways, strings.Join(append(append([]string{}, parts...), rest), " "))
		}
	}
	return out
}

// firstWrong is the number of the first token with which no program goes on, or -1; it goes all ways that the grammar has at once.
func firstWrong(rules map[string][][]string, l []api.Token) int {
	ways := []string{"program end"}
	for i, x := range l {
		if ways = goOn(rules, ways, kindOf(x)); len(ways) == 0 {
			return i
		}
	}
	return -1
}
