package lexer

import (
	"regexp"
	"slices"
	"strconv"
	"strings"
	"testing"

	"beaconry/api"
)

func at(line, col int) api.Pos { return api.Pos{Line: line, Col: col} }

// scanned asks for tokens, as a call gives them.
func scanned(t *testing.T, s string) []api.Token {
	t.Helper()
	l, e, p := Scan(s)
	if e != api.OK || p != (api.Pos{}) || len(l) == 0 || l[len(l)-1].Kind != api.TokEnd {
		t.Fatalf("%q: %v, error %d at %v", short(s), l, e, p)
	}
	return l
}

// refused asks for the error, its place, and nothing beside it.
func refused(t *testing.T, s string, want api.Pos) {
	t.Helper()
	if l, e, p := Scan(s); len(l) != 0 || e != api.ErrLex || p != want {
		t.Errorf("%q: %d tokens, error %d at %v, not at %v", short(s), len(l), e, p, want)
	}
}

func short(s string) string { return s[:min(len(s), 60)] }

// bare is tokens without their places.
func bare(l []api.Token) []api.Token {
	out := slices.Clone(l)
	for i := range out {
		out[i].Pos = api.Pos{}
	}
	return out
}

func allSigns() []string {
	return strings.Fields(":- := == != <= >= < > ( ) [ ] , . @ ! + - *")
}

func TestTokensX1(t *testing.T) {
	for s, want := range map[string][]api.Token{
		"p(@S) % x": {
			{Kind: api.TokName, Text: "p", Pos: at(1, 1)}, {Kind: api.TokSign, Text: "(", Pos: at(1, 2)}, {Kind: api.TokSign, Text: "@", Pos: at(1, 3)},
			{Kind: api.TokVar, Text: "S", Pos: at(1, 4)}, {Kind: api.TokSign, Text: ")", Pos: at(1, 5)}, {Kind: api.TokEnd, Pos: at(1, 10)},
		},
		"":           {{Kind: api.TokEnd, Pos: at(1, 1)}},
		" \t":        {{Kind: api.TokEnd, Pos: at(1, 3)}},
		"\n":         {{Kind: api.TokEnd, Pos: at(2, 1)}},
		"%":          {{Kind: api.TokEnd, Pos: at(1, 2)}},
		"% a \" ?":   {{Kind: api.TokEnd, Pos: at(1, 8)}},
		"%\n":        {{Kind: api.TokEnd, Pos: at(2, 1)}},
		"%\xffé%\n":  {{Kind: api.TokEnd, Pos: at(2, 1)}},
		"%\xffé\x00": {{Kind: api.TokEnd, Pos: at(1, 6)}},
		"ab_9z":      {{Kind: api.TokName, Text: "ab_9z", Pos: at(1, 1)}, {Kind: api.TokEnd, Pos: at(1, 6)}},
		"A_bC9":      {{Kind: api.TokVar, Text: "A_bC9", Pos: at(1, 1)}, {Kind: api.TokEnd, Pos: at(1, 6)}},
		"f_cons materialize min": {
			{Kind: api.TokName, Text: "f_cons", Pos: at(1, 1)}, {Kind: api.TokName, Text: "materialize", Pos: at(1, 8)}, {Kind: api.TokName, Text: "min", Pos: at(1, 20)},
			{Kind: api.TokEnd, Pos: at(1, 23)},
		},
		"0 007 -12": {
			{Kind: api.TokInt, Text: "0", Pos: at(1, 1)}, {Kind: api.TokInt, Text: "007", N: 7, Pos: at(1, 3)}, {Kind: api.TokSign, Text: "-", Pos: at(1, 7)},
			{Kind: api.TokInt, Text: "12", N: 12, Pos: at(1, 8)}, {Kind: api.TokEnd, Pos: at(1, 10)},
		},
		"12ab3 Z": { // a number ends where its digits do, a name goes on with digits
			{Kind: api.TokInt, Text: "12", N: 12, Pos: at(1, 1)}, {Kind: api.TokName, Text: "ab3", Pos: at(1, 3)}, {Kind: api.TokVar, Text: "Z", Pos: at(1, 7)},
			{Kind: api.TokEnd, Pos: at(1, 8)},
		},
		`"" "a b""% x"`: {
			{Kind: api.TokText, Pos: at(1, 1)}, {Kind: api.TokText, Text: "a b", Pos: at(1, 4)}, {Kind: api.TokText, Text: "% x", Pos: at(1, 9)},
			{Kind: api.TokEnd, Pos: at(1, 14)},
		},
		"a%b\nc": {{Kind: api.TokName, Text: "a", Pos: at(1, 1)}, {Kind: api.TokName, Text: "c", Pos: at(2, 1)}, {Kind: api.TokEnd, Pos: at(2, 2)}},
	} {
		if got := scanned(t, s); !slices.Equal(got, want) {
			t.Errorf("%q: %v, not %v", s, got, want)
		}
	}
}

func TestPlacesX1(t *testing.T) {
	s := "r1 p(@S)\n\n\t:- % é and all \"\n\n  q(@S,\n\"x\",7).% end\n \t"
	want := []api.Pos{at(1, 1), at(1, 4), at(1, 5), at(1, 6), at(1, 7), at(1, 8), at(3, 2), at(5, 3), at(5, 4), at(5, 5), at(5, 6), at(5, 7), at(6, 1), at(6, 4), at(6, 5), at(6, 6), at(6, 7), at(7, 3)}
	var got []api.Pos
	for _, x := range scanned(t, s) {
		got = append(got, x.Pos)
	}
	if !slices.Equal(got, want) {
		t.Errorf("%v, not %v", got, want)
	}
}

func TestSignsX1(t *testing.T) {
	for _, w := range allSigns() {
		l := scanned(t, w)
		if len(l) != 2 || l[0] != (api.Token{Kind: api.TokSign, Text: w, Pos: at(1, 1)}) || l[1].Pos != at(1, len(w)+1) {
			t.Errorf("%q: %v", w, l)
		}
	}
	for s, want := range map[string]string{
		"!!=<=<!": "! != <= < !", "!==": "!=?3", "!===": "!= ==", "===": "==?3", "====": "== ==", "<==": "<=?3", "<===": "<= ==", "<<=": "< <=", ">>=": "> >=", "><": "> <", "<>": "< >", "<-": "< -", "=": "?1", "=<": "?1", "=>": "?1", ":": "?1", "::-": "?1",
		":-:=": ":- :=", ":--": ":- -", ":-=": ":-?3", ":==": ":=?3", ":===": ":= ==", "!-": "! -", "!:=": "! :=", "<:-": "< :-", "<=>=": "<= >=", "...": ". . .", "+-*": "+ - *", "([])": "( [ ] )", "-:": "-?2", "@@,": "@ @ ,", ": -": "?1", "= =": "?1",
	} {
		if words, col, ok := strings.Cut(want, "?"); ok {
			n, _ := strconv.Atoi(col)
			refused(t, s, at(1, n))
			if words != "" {
				scanned(t, s[:n-1])
			}
			continue
		}
		var got []string
		for _, x := range scanned(t, s) {
			got = append(got, x.Text)
		}
		if strings.Join(got, " ") != want+" " {
			t.Errorf("%q: %q", s, got)
		}
	}
}

// TestEdgesX1: what has just as much as it may have, and what has one more.
func TestEdgesX1(t *testing.T) {
	digits := strings.Repeat("0", 9)
	for _, x := range []struct {
		fits  string
		token api.Token
		over  string
	}{
		{"abcdefghijklmnop", api.Token{Kind: api.TokName}, "abcdefghijklmnopq"},
		{"a_0123456789_xyz", api.Token{Kind: api.TokName}, "a_0123456789_xyz0"},
		{"ABCDEFGHIJKLMNOP", api.Token{Kind: api.TokVar}, "ABCDEFGHIJKLMNOPQ"},
		{"Abcdefghij_12345", api.Token{Kind: api.TokVar}, "Abcdefghij_12345_"},
		{"2147483647", api.Token{Kind: api.TokInt, N: 1<<31 - 1}, "2147483648"},
		{"2147483646", api.Token{Kind: api.TokInt, N: 1<<31 - 2}, "9999999999"},
		{digits + "1", api.Token{Kind: api.TokInt, N: 1}, digits + "01"},
		{digits + "0", api.Token{Kind: api.TokInt}, digits + "00"},
		{"999999999", api.Token{Kind: api.TokInt, N: 999999999}, "02147483647"},
		{"1", api.Token{Kind: api.TokInt, N: 1}, "18446744073709551617"}, // 2^64 + 1
	} {
		want := x.token
		want.Text = x.fits
		if l := bare(scanned(t, x.fits)); len(l) != 2 || l[0] != want {
			t.Errorf("%q: %v", x.fits, l)
		}
		if l := scanned(t, "\n ("+x.fits+")"); len(l) != 4 || l[1].Text != x.fits || l[1].Pos != at(2, 3) {
			t.Errorf("%q: %v", x.fits, l)
		}
		refused(t, x.over, at(1, 1))
		refused(t, "\n ("+x.over+")", at(2, 3))
	}
	for _, c := range []string{"x", " ", "~", "%"} {
		fits := strings.Repeat(c, api.MaxText)
		if l := scanned(t, `a"`+fits+`"`); len(l) != 3 || l[1] != (api.Token{Kind: api.TokText, Text: fits, Pos: at(1, 2)}) || l[2].Pos != at(1, 36) {
			t.Errorf("%q: %v", fits, l)
		}
		refused(t, `a"`+fits+c+`"`, at(1, 2))
	}
	refused(t, strings.Repeat("a", api.MaxSource), at(1, 1))
	refused(t, strings.Repeat("9", api.MaxSource), at(1, 1))
	refused(t, `"`+strings.Repeat("a", api.MaxSource-1), at(1, 1))
}

func TestSizeX1(t *testing.T) {
	for _, c := range []string{" ", "\n", "%", ".", "("} {
		scanned(t, strings.Repeat(c, api.MaxSource))
		refused(t, strings.Repeat(c, api.MaxSource+1), at(1, 1))
	}
	if l := scanned(t, strings.Repeat("\n", api.MaxSource)); l[0].Pos != at(api.MaxSource+1, 1) {
		t.Errorf("%v", l)
	}
	if l := scanned(t, strings.Repeat(",", api.MaxSource)); len(l) != api.MaxSource+1 || l[api.MaxSource].Pos != at(1, api.MaxSource+1) {
		t.Errorf("%d tokens", len(l))
	}
	// Bytes are counted, not letters.
	scanned(t, "%"+strings.Repeat("é", 9999))
	refused(t, "%"+strings.Repeat("é", 10000), at(1, 1))
	// The text's size comes ahead of whatever else is wrong in it.
	refused(t, "a\n"+strings.Repeat(" ", api.MaxSource-2)+"?", at(1, 1))
	refused(t, "a\n?"+strings.Repeat(" ", api.MaxSource), at(1, 1))
	refused(t, "a\n?"+strings.Repeat(" ", api.MaxSource-3), at(2, 1))
}

func TestWrongX1(t *testing.T) {
	for s, want := range map[string]api.Pos{
		"?": at(1, 1), "a ;": at(1, 3), "a;b": at(1, 2), "\n\n  =": at(3, 3), "_a": at(1, 1), "a _": at(1, 3), "1_": at(1, 2), "a\r\nb": at(1, 2), "a\x00": at(1, 2), "\\": at(1, 1), "a/b": at(1, 2), "{": at(1, 1), "'a'": at(1, 1), "a\v": at(1, 2), "\f": at(1, 1),
		"aB": at(1, 1), "p(@S,\n x1Y)": at(2, 2), "abcdefghijklmnoPq": at(1, 1), "a_Z": at(1, 1), "b aBc ?": at(1, 3), "12ab3Z": at(1, 3),
		`"`: at(1, 1), `a "x`: at(1, 3), "a\n\"x": at(2, 1), "\"x\ny\"": at(1, 1), "\n \"x\ny\" ?": at(2, 2), `""" `: at(1, 3), "\"x % y\n": at(1, 1), "% \"\n\"": at(2, 1),
		`"a\b"`: at(1, 1), `"a\"b"`: at(1, 1), "\"\t\"": at(1, 1), "\"\x7f\"": at(1, 1), "\"\x1f\"": at(1, 1), "\"\x00\"": at(1, 1), `"é"`: at(1, 1), "\"\xff\"": at(1, 1), "\"\xc3\"": at(1, 1), "\"\uFFFD\"": at(1, 1),
		"\xff": at(1, 1), "a\xff": at(1, 2), "é": at(1, 1), "aé": at(1, 2), "A\xc3": at(1, 2), "1\xe2\x82": at(1, 2), "\uFFFD": at(1, 1), "\xef\xbb\xbfa": at(1, 1), "ａ": at(1, 1), "１": at(1, 1), "1１": at(1, 2), "a\u00a0b": at(1, 2), "a\u2028b": at(1, 2), "À": at(1, 1),
		"%é\xff\n é": at(2, 2), "<é": at(1, 2),
		"? aB": at(1, 1), "aB ?": at(1, 1), "1 2147483648 \"": at(1, 3), "\" ?": at(1, 1), "99999999999 aB": at(1, 1),
	} {
		refused(t, s, want)
	}
}

// TestBytesX1: which bytes may stand alone, in a word, in a text and in a comment.
func TestBytesX1(t *testing.T) {
	for c := range 256 {
		b := string([]byte{byte(c)})
		letter, capital, cipher := c >= 'a' && c <= 'z', c >= 'A' && c <= 'Z', c >= '0' && c <= '9'
		between := c == ' ' || c == '\t' || c == '\n' || c == '%'
		single := c < 128 && strings.Contains("<>()[],.@!+-*", b)
		if letter || capital || cipher || between || single {
			scanned(t, b)
		} else {
			refused(t, b, at(1, 1))
		}
		switch {
		case capital:
			refused(t, "a"+b, at(1, 1))
		case letter || cipher || c == '_':
			if l := scanned(t, "a"+b); len(l) != 2 || l[0].Text != "a"+b {
				t.Errorf("byte %d in a name: %v", c, l)
			}
		case between || single:
			scanned(t, "a"+b)
		default:
			refused(t, "a"+b, at(1, 2))
		}
		if letter || capital || cipher || c == '_' {
			if l := scanned(t, "X"+b); len(l) != 2 || l[0] != (api.Token{Kind: api.TokVar, Text: "X" + b, Pos: at(1, 1)}) {
				t.Errorf("byte %d in a variable: %v", c, l)
			}
		}
		if c >= 32 && c <= 126 && c != '"' && c != '\\' {
			if l := scanned(t, `"`+b+`"`); len(l) != 2 || l[0] != (api.Token{Kind: api.TokText, Text: b, Pos: at(1, 1)}) {
				t.Errorf("byte %d in a text: %v", c, l)
			}
		} else if c != '"' {
			refused(t, `"`+b+`"`, at(1, 1))
		}
		if l := scanned(t, "%"+b+"\n%"+b); len(l) != 1 {
			t.Errorf("byte %d in a comment: %v", c, l)
		}
	}
}

// dice is numbers below what is asked, the same ones each time.
func dice() func(int) int {
	seed := uint32(7)
	return func(k int) int {
		seed = seed*1664525 + 1013904223
		return int(seed>>16) % k
	}
}

// plain is what chapter 3 says, by expressions in place of the program's loops.
func plain(s string) ([]api.Token, bool, api.Pos) {
	if len(s) > 20000 {
		return nil, false, at(1, 1)
	}
	skip := regexp.MustCompile(`^(?:[ \t\n]|%[^\n]*)+`)
	kinds := []struct{ kind, most int }{{api.TokName, 16}, {api.TokVar, 16}, {api.TokInt, 10}, {api.TokText, 34}, {api.TokSign, 2}}
	parts := regexp.MustCompile(`^(?:([a-z][a-zA-Z0-9_]*)|([A-Z][a-zA-Z0-9_]*)|([0-9]+)|("[^"]*")|(:-|:=|==|!=|<=|>=|[<>()\[\],.@!+*-]))`)
	rightText := regexp.MustCompile(`^"[ !#-\[\]-~]*"$`)
	var out []api.Token
	for i := 0; ; {
		i += len(skip.FindString(s[i:]))
		pos := at(1+strings.Count(s[:i], "\n"), i-strings.LastIndex(s[:i], "\n"))
		if i == len(s) {
			return append(out, api.Token{Kind: api.TokEnd, Pos: pos}), true, api.Pos{}
		}
		m := parts.FindStringSubmatch(s[i:])
		if m == nil {
			return nil, false, pos
		}
		k := slices.IndexFunc(m[1:], func(w string) bool { return w != "" })
		x := api.Token{Kind: kinds[k].kind, Text: m[0], Pos: pos}
		bad := len(m[0]) > kinds[k].most
		switch x.Kind {
		case api.TokName:
			bad = bad || strings.ToLower(m[0]) != m[0]
		case api.TokInt:
			n, err := strconv.ParseInt(m[0], 10, 32)
			x.N, bad = int(n), bad || err != nil
		case api.TokText:
			x.Text, bad = strings.Trim(m[0], `"`), bad || !rightText.MatchString(m[0])
		}
		if bad {
			return nil, false, pos
		}
		out = append(out, x)
		i += len(m[0])
	}
}

// TestDrawnX1 holds Scan against plain, on texts of few parts, right and wrong ones.
func TestDrawnX1(t *testing.T) {
	roll := dice()
	often := append(allSigns(), "a", "b_1", "X", "Yz", "0", "12", "2147483647", `"a b"`, `""`, " ", "\n", "\t", "% é\xff\n", " ", "\n")
	seldom := []string{":", "=", "_", "B", "é", "\xff", "\x00", "\r", `"`, "?", "%", "99999", "abcdefghi", `"xxxxxxxxxxxxxxxxxxxxxxxxxxxxxxxxx"`, `"\"`}
	good := 0
	for range 20000 {
		var s strings.Builder
		for range roll(12) {
			if roll(12) == 0 {
				s.WriteString(seldom[roll(len(seldom))])
			} else {
				s.WriteString(often[roll(len(often))])
			}
		}
		want, ok, pos := plain(s.String())
		if !ok {
			refused(t, s.String(), pos)
			continue
		}
		good++
		if got := scanned(t, s.String()); !slices.Equal(got, want) {
			t.Fatalf("%q: %v, not %v", s.String(), got, want)
		}
	}
	if good < 5000 || good > 17000 {
		t.Errorf("%d of 20000 are right", good)
	}
}

// drawnToken is a token that may be, without its place, and how it stands in a text.
func drawnToken(roll func(int) int) (api.Token, string) {
	of := func(s string, n int) string {
		var b strings.Builder
		for range n {
			b.WriteByte(s[roll(len(s))])
		}
		return b.String()
	}
	const letters, digits = "abcdefghijklmnopqrstuvwxyz", "0123456789"
	switch 1 + roll(5) {
	case api.TokName:
		w := of(letters, 1) + of(letters+digits+"_", roll(16))
		return api.Token{Kind: api.TokName, Text: w}, w
	case api.TokVar:
		w := of("ABCXYZ", 1) + of(letters+"ABCXYZ"+digits+"_", roll(16))
		return api.Token{Kind: api.TokVar, Text: w}, w
	case api.TokInt:
		w := strings.Repeat("0", roll(2)) + of(digits, 1+roll(9))
		n, _ := strconv.Atoi(w)
		return api.Token{Kind: api.TokInt, Text: w, N: n}, w
	case api.TokText:
		w := of(letters+" %.:-=<>!@~'#", roll(33))
		return api.Token{Kind: api.TokText, Text: w}, `"` + w + `"`
	}
	w := allSigns()[roll(19)]
	return api.Token{Kind: api.TokSign, Text: w}, w
}

// joined is tokens' texts, those of texts in quotes, with something between.
func joined(l []api.Token, between func() string) string {
	var b strings.Builder
	for _, x := range l {
		if x.Kind == api.TokText {
			b.WriteString(`"` + x.Text + `"`)
		} else {
			b.WriteString(x.Text)
		}
		b.WriteString(between())
	}
	return b.String()
}

func risingPlaces(l []api.Token) bool {
	for i := 1; i < len(l); i++ {
		a, b := l[i-1].Pos, l[i].Pos
		if b.Line < a.Line || b.Line == a.Line && b.Col <= a.Col {
			return false
		}
	}
	return l[0].Pos.Line >= 1 && l[0].Pos.Col >= 1
}

// TestAgainX2: tokens, told with a blank or with blanks and comments between, are the same tokens, and their places rise.
func TestAgainX2(t *testing.T) {
	roll := dice()
	blanks := []string{" ", "\n", "\t", "%\n", "% x \" é\n", " %%\n\n", "\t \n", "%\xff:-\n"}
	blank := func() string { return " " }
	more := func() string {
		var b strings.Builder
		for range 1 + roll(3) {
			b.WriteString(blanks[roll(len(blanks))])
		}
		return b.String()
	}
	for range 3000 {
		want := []api.Token{}
		var s strings.Builder
		for range roll(30) {
			x, w := drawnToken(roll)
			want = append(want, x)
			s.WriteString(w + more())
		}
		want = append(want, api.Token{Kind: api.TokEnd})
		first := scanned(t, s.String())
		for _, l := range [][]api.Token{first, scanned(t, joined(first, blank)), scanned(t, joined(first, more)), scanned(t, more()+s.String())} {
			if !slices.Equal(bare(l), want) {
				t.Fatalf("%q: %v, not %v", s.String(), l, want)
			}
			if !risingPlaces(l) {
				t.Fatalf("%q: places do not rise: %v", s.String(), l)
			}
		}
	}
}

// TestSqueezedX2: where nothing stands between tokens, what they are is still told the same with a blank between.
func TestSqueezedX2(t *testing.T) {
	roll := dice()
	good := 0
	for range 5000 {
		var s strings.Builder
		for range roll(8) {
			_, w := drawnToken(roll)
			s.WriteString(w)
		}
		first, e, _ := Scan(s.String())
		if e != api.OK {
			continue
		}
		good++
		again := scanned(t, joined(first, func() string { return " " }))
		if !slices.Equal(bare(again), bare(first)) || !risingPlaces(first) {
			t.Fatalf("%q: %v, then %v", s.String(), first, again)
		}
	}
	if good < 500 {
		t.Errorf("%d texts are too few", good)
	}
}

// TestAnswersAreApart: rules R3 and R4, an answer is its owner's, and the next call knows nothing of it.
func TestAnswersAreApart(t *testing.T) {
	const s = "a :- 1, \"x\"."
	one, two := scanned(t, s), scanned(t, s)
	want := slices.Clone(two)
	for i := range one {
		one[i] = api.Token{Kind: api.TokInt, N: 9}
	}
	_ = append(one, api.Token{Kind: api.TokVar, Text: "Z"})
	refused(t, "?", at(1, 1))
	if !slices.Equal(two, want) || !slices.Equal(scanned(t, s), want) {
		t.Error("an answer changed")
	}
}
