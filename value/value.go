// Package value is layer 1: numbers, texts, addresses and lists, which tuples are made of. See shared/doc/01-value.md.
package value

import (
	"cmp"
	"strconv"
	"strings"

	"beaconry/api"
)

// Number makes a number; like the three below it takes what is not right, too.
func Number(n int) api.Value { return api.Value{Kind: api.Int, Int: n} }

// Text makes a text.
func Text(s string) api.Value { return api.Value{Kind: api.Text, Text: s} }

// Addr makes an address.
func Addr(s string) api.Value { return api.Value{Kind: api.Addr, Text: s} }

// List makes a list, of copies all the way down: it shares no memory with l.
func List(l []api.Value) api.Value { return api.Value{Kind: api.List, List: copied(l)} }

// copied copies the lists of all elements, whatever their Kind is: a wrong value may have a list beside what it is.
func copied(l []api.Value) []api.Value {
	if len(l) == 0 {
		return nil
	}
	out := make([]api.Value, len(l))
	for i, v := range l {
		v.List = copied(v.List)
		out[i] = v
	}
	return out
}

// Name tells whether a text may be an address, or a relation's name.
func Name(s string) bool {
	if len(s) < 1 || len(s) > api.MaxName {
		return false
	}
	// Bytes beyond 127 come as runes that no range here has, one alone or several at once.
	for i, r := range s {
		if !small(r) && (i == 0 || !digit(r) && r != '_') {
			return false
		}
	}
	return true
}

func small(r rune) bool { return r >= 'a' && r <= 'z' }

func digit(r rune) bool { return r >= '0' && r <= '9' }

// Right tells whether a value may be.
func Right(v api.Value) bool { return rightWithin(v, api.MaxDepth) }

// rightWithin lets lists be so deep at most, so that it ends soon, however deep they are.
func rightWithin(v api.Value, depth int) bool {
	switch v.Kind {
	case api.Int:
		return v.Text == "" && len(v.List) == 0 && v.Int >= -api.MaxInt && v.Int <= api.MaxInt
	case api.Text:
		return v.Int == 0 && len(v.List) == 0 && rightText(v.Text)
	case api.Addr:
		return v.Int == 0 && len(v.List) == 0 && Name(v.Text)
	case api.List:
		return v.Int == 0 && v.Text == "" && rightList(v.List, depth)
	}
	return false
}

func rightText(s string) bool {
	if len(s) > api.MaxText {
		return false
	}
	for _, r := range s {
		if r < 32 || r > 126 || r == '"' || r == '\\' {
			return false
		}
	}
	return true
}

func rightList(l []api.Value, depth int) bool {
	if depth < 1 || len(l) > api.MaxList {
		return false
	}
	for _, v := range l {
		if !rightWithin(v, depth-1) {
			return false
		}
	}
	return true
}

// Compare tells which of two values comes first: below 0 the first one, above 0 the second one.
func Compare(a, b api.Value) int {
	if a.Kind != b.Kind {
		return cmp.Compare(a.Kind, b.Kind)
	}
	switch a.Kind {
	case api.Int:
		return cmp.Compare(a.Int, b.Int)
	case api.Text, api.Addr:
		// Not by runes: bytes that are no UTF-8 would all be the same one.
		return cmp.Compare(a.Text, b.Text)
	case api.List:
		return compareLists(a.List, b.List)
	}
	return 0
}

func compareLists(a, b []api.Value) int {
	for i := range min(len(a), len(b)) {
		if c := Compare(a[i], b[i]); c != 0 {
			return c
		}
	}
	return cmp.Compare(len(a), len(b))
}

// Print is a right value's text, and empty of all else.
func Print(v api.Value) string {
	if !Right(v) {
		return ""
	}
	var b strings.Builder
	write(&b, v)
	return b.String()
}

// write needs no escapes: a right text has no quote and no backslash.
func write(b *strings.Builder, v api.Value) {
	switch v.Kind {
	case api.Int:
		b.WriteString(strconv.Itoa(v.Int))
	case api.Text:
		b.WriteByte('"')
		b.WriteString(v.Text)
		b.WriteByte('"')
	case api.Addr:
		b.WriteString(v.Text)
	case api.List:
		writeList(b, v.List)
	}
}

func writeList(b *strings.Builder, l []api.Value) {
	b.WriteByte('[')
	for i, v := range l {
		if i > 0 {
			b.WriteByte(',')
		}
		write(b, v)
	}
	b.WriteByte(']')
}
