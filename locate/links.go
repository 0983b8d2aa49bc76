package locate

import "beaconry/api"

// way is what a link leads along, from one variable's place to another one's.
type way struct{ from, to string }

// links are the ways that a body's links lead along; of each the number of the first link that does.
type links map[way]int

func linked(body []api.Literal) links {
	out := links{}
	for i, l := range body {
		if !isLink(l) {
			continue
		}
		w := way{l.Args[0].Name, l.Args[1].Name}
		if _, again := out[w]; !again {
			out[w] = i
		}
	}
	return out
}

// isLink is asked of literals whose places are variables.
func isLink(l api.Literal) bool {
	return isAtom(l) && l.Name == api.Link && len(l.Args) > 1 && l.Args[1].Kind == api.TermVar
}

func (l links) has(from, to string) bool {
	_, ok := l[way{from, to}]
	return ok
}

// between is the way that comes first, of the two ways between two places, if there is any.
func (l links) between(a, b string) (way, bool) {
	forth, back := way{a, b}, way{b, a}
	i, ok := l[forth]
	if k, also := l[back]; also && (!ok || k < i) {
		return back, true
	}
	return forth, ok
}
