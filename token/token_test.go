package token_test

import (
	"math"
	"regexp"
	"slices"
	"strconv"
	"strings"
	"testing"

	"raddle/api"
	"raddle/token"
)

const keywordList = "array as assert atomic begin block blockcyclic bool by cobegin coforall const cyclic dmapped domain else except false for forall hashed here if import in int iter max min module numLocales on only param private proc range reduce ref return sync then true type use var void where while with write yield"

const signList = "!= && *= += -= .. <= == >= || ! # % ( ) * + , - . / : ; < = > ? [ ] { }"

var patterns = map[string]*regexp.Regexp{}

// pattern returns a regular expression, which is compiled once.
func pattern(s string) *regexp.Regexp {
	if patterns[s] == nil {
		patterns[s] = regexp.MustCompile(s)
	}
	return patterns[s]
}

// plainToken finds what a text begins with by regular expressions: the kind 0 is white space.
func plainToken(text string) (kind, length int, e api.Errno) {
	find := func(s string) int { return len(pattern(`^(?:` + s + `)`).FindString(text)) }
	if n := find(`[ \t\n\r]+|//[^\n]*`); n > 0 {
		return 0, n, api.OK
	}
	if strings.HasPrefix(text, "/*") {
		for n := 2; n < len(text); n++ {
			ahead := pattern(`/\*|\*/`).FindAllString(text[:n+1], -1)
			depth := 0
			for _, x := range ahead {
				if depth++; x == "*/" {
					depth -= 2
				}
			}
			if depth == 0 {
				return 0, n + 1, api.OK
			}
		}
		return 0, 0, token.ErrComment
	}
	if n := find(`[0-9]+`); n > 0 {
		_, err := strconv.ParseInt(text[:n], 10, 64)
		if err != nil || text[0] == '0' && n > 1 || find(`[0-9]+[A-Za-z_]`) > 0 {
			return 0, 0, token.ErrNumber
		}
		return token.Number, n, api.OK
	}
	if n := find(`[A-Za-z_][A-Za-z_0-9]*`); n > 0 {
		switch {
		case n > 40:
			return 0, 0, token.ErrName
		case slices.Contains(strings.Split(keywordList, " "), text[:n]):
			return token.Keyword, n, api.OK
		}
		return token.Name, n, api.OK
	}
	if text[0] == '"' {
		if n := find(`"([ -!#-\[\]-~]|\\[\\"nt]|\\x[0-9a-fA-F]{2})*"`); n > 0 {
			return token.String, n, api.OK
		}
		return 0, 0, token.ErrString
	}
	for _, s := range strings.Split(signList, " ") {
		if strings.HasPrefix(text, s) {
			return token.Sign, len(s), api.OK
		}
	}
	return 0, 0, token.ErrByte
}

// meant is what a string token means, by the rules of Go for the escapes that both have.
func meant(t *testing.T, text string) string {
	s, err := strconv.Unquote(text)
	if err != nil {
		t.Fatalf("%s: %v", text, err)
	}
	return s
}

func plainScan(t *testing.T, text string) (l []token.Token, at int, e api.Errno) {
	for at < len(text) {
		kind, n, e := plainToken(text[at:])
		if e != api.OK {
			return nil, at, e
		}
		x := token.Token{Kind: kind, Text: text[at : at+n], At: at}
		switch kind {
		case token.Number:
			x.Value, _ = strconv.Atoi(x.Text)
		case token.String:
			x.Text = meant(t, x.Text)
		}
		if kind != 0 {
			l = append(l, x)
		}
		at += n
	}
	return l, 0, api.OK
}

func checkScan(t *testing.T, text string) {
	t.Helper()
	l, at, e := token.Scan(text)
	wantL, wantAt, want := plainScan(t, text)
	if !slices.Equal(l, wantL) || at != wantAt || e != want {
		t.Fatalf("Scan(%q): %v %d %d; want %v %d %d", text, l, at, e, wantL, wantAt, want)
	}
}

// texts yields all texts of up to n of the parts.
func texts(n int, parts []string, use func(string)) {
	use("")
	if n == 0 {
		return
	}
	for _, p := range parts {
		texts(n-1, parts, func(rest string) {
			if rest == "" || n > 1 {
				use(p + rest)
			}
		})
	}
}

func TestScanOfAllSmallTexts(t *testing.T) {
	for _, parts := range []string{"a_0/*\n\"\\x& ", "<=>!.+-|&%", "/* \"\\n10"} {
		texts(4, strings.Split(parts, ""), func(s string) { checkScan(t, s) })
	}
	pieces := []string{"for", "forx", "1", "/*", "*/", "//", "\n", "\"", "\\\"", "..", ".", "="}
	texts(4, pieces, func(s string) { checkScan(t, s) })
}

func TestScanOfSingleBytes(t *testing.T) {
	for c := range 256 {
		for _, s := range []string{string([]byte{byte(c)}), "a" + string([]byte{byte(c)}), "\"" + string([]byte{byte(c)}) + "\"",
			"\"\\" + string([]byte{byte(c)}) + "\"", "\"\\x" + string([]byte{byte(c)}) + "0\"", "\"\\x0" + string([]byte{byte(c)}) + "\"", "1" + string([]byte{byte(c)})} {
			checkScan(t, s)
		}
	}
}

func TestScanOfWords(t *testing.T) {
	for _, w := range strings.Split(keywordList, " ") {
		for _, s := range []string{w, w + "1", "_" + w, w[1:], strings.ToUpper(w), w + " " + w} {
			checkScan(t, s)
		}
	}
	long := strings.Repeat("n", 40)
	for _, s := range []string{long, long + "1", "x " + long + "_", long[1:] + "9", "1" + long + "x"} {
		checkScan(t, s)
	}
}

func TestScanOfNumbers(t *testing.T) {
	for _, s := range []string{"0", "00", "01", "10", "9223372036854775807", "9223372036854775808", "9223372036854775799", "9223372036854775810", "18446744073709551616", strings.Repeat("9", 60),
		"99999999999999999999a", "1_", "1a", "1..2", "1.", "12 013", "-9223372036854775808", "0x1", "7\"a\""} {
		checkScan(t, s)
	}
}

func TestScanExamples(t *testing.T) {
	l, at, e := token.Scan("a..b /* x /* y */ */ += \"\\x41\"")
	want := []token.Token{{token.Name, "a", 0, 0}, {token.Sign, "..", 0, 1}, {token.Name, "b", 0, 3}, {token.Sign, "+=", 0, 21}, {token.String, "A", 0, 24}}
	if !slices.Equal(l, want) || at != 0 || e != api.OK {
		t.Fatal(l, at, e)
	}
	for _, c := range []struct {
		text string
		at   int
		e    api.Errno
	}{
		{"1a", 0, token.ErrNumber}, {"x /* /* */", 2, token.ErrComment}, {"/*/", 0, token.ErrComment}, {"a \"b\nc\"", 2, token.ErrString}, {"\"\\y\"", 0, token.ErrString},
		{"\"", 0, token.ErrString}, {"\"\\", 0, token.ErrString}, {"\"\\x4", 0, token.ErrString}, {"a & b", 2, token.ErrByte}, {"a\x00", 1, token.ErrByte}, {"ä", 0, token.ErrByte},
		{"a @ \"", 2, token.ErrByte}, {"// \x00 \" /* 01\n@", 13, token.ErrByte}, {"/* \x00 \" // 01 */@", 15, token.ErrByte},
	} {
		if l, at, e := token.Scan(c.text); len(l) > 0 || at != c.at || e != c.e {
			t.Errorf("Scan(%q): %v %d %d", c.text, l, at, e)
		}
	}
}

func TestScanLimit(t *testing.T) {
	if l, at, e := token.Scan(strings.Repeat(" ", api.MaxSource-1) + "x"); len(l) != 1 || at != 0 || e != api.OK || l[0].At != api.MaxSource-1 {
		t.Error(l, at, e)
	}
	for _, s := range []string{strings.Repeat(" ", api.MaxSource+1), strings.Repeat("@", api.MaxSource+1)} {
		if l, at, e := token.Scan(s); len(l) > 0 || at != 0 || e != api.ErrLarge {
			t.Error(len(l), at, e)
		}
	}
	if _, at, e := token.Scan(strings.Repeat(" ", api.MaxSource-1) + "@"); at != api.MaxSource-1 || e != token.ErrByte {
		t.Error(at, e)
	}
	if _, at, e := token.Scan(strings.Repeat("/*", api.MaxSource/2)); at != 0 || e != token.ErrComment {
		t.Error(at, e)
	}
}

func TestLists(t *testing.T) {
	if got := strings.Join(token.Keywords(), " "); got != keywordList {
		t.Error(got)
	}
	if got := strings.Join(token.Signs(), " "); got != signList {
		t.Error(got)
	}
	token.Keywords()[0], token.Signs()[0] = "changed", "changed"
	if token.Keywords()[0] != "array" || token.Signs()[0] != "!=" {
		t.Error("a list that was handed out is kept")
	}
}

// pool has right tokens of all kinds.
func pool() []token.Token {
	l := []token.Token{{Kind: token.Name, Text: "a"}, {Kind: token.Name, Text: "_"}, {Kind: token.Name, Text: "forx1"}, {Kind: token.Name, Text: strings.Repeat("n", 40)}, {Kind: token.Name, Text: strings.Repeat("m", 39)},
		{Kind: token.Number, Text: "0"}, {Kind: token.Number, Text: "17", Value: 17}, {Kind: token.Number, Text: "9223372036854775807", Value: math.MaxInt},
		{Kind: token.String}, {Kind: token.String, Text: "a\"\\\n\t\x00\xff b"}, {Kind: token.String, Text: "/*"}}
	for _, k := range []string{"for", "in", "array", "yield"} {
		l = append(l, token.Token{Kind: token.Keyword, Text: k})
	}
	for _, s := range strings.Split(signList, " ") {
		l = append(l, token.Token{Kind: token.Sign, Text: s})
	}
	return l
}

func without(l []token.Token) []token.Token {
	l = slices.Clone(l)
	for i := range l {
		l[i].At = 0
	}
	return l
}

// TestJoin compares with the text that has a space exactly where two texts are not scanned as they are.
func TestJoin(t *testing.T) {
	all := pool()
	for _, a := range all {
		for _, b := range all {
			textA, _ := token.Write(a)
			textB, _ := token.Write(b)
			want := textA + textB
			if l, _, e := plainScan(t, want); e != api.OK || !slices.Equal(without(l), []token.Token{a, b}) {
				want = textA + " " + textB
			}
			if got, e := token.Join([]token.Token{a, b}); got != want || e != api.OK {
				t.Fatalf("%v %v: %q %d, want %q", a, b, got, e, want)
			}
		}
	}
}

// TestBack joins three tokens, which are no less apart than two.
func TestBack(t *testing.T) {
	all := pool()
	for _, a := range all {
		for _, b := range all {
			for _, c := range all {
				if a.Kind != token.Sign && b.Kind != token.Sign && c.Kind != token.Sign {
					continue
				}
				l := []token.Token{a, b, c}
				text, e := token.Join(l)
				if e != api.OK {
					t.Fatal(l, e)
				}
				back, _, e := token.Scan(text)
				if e != api.OK || !slices.Equal(without(back), l) {
					t.Fatalf("%v: %q %v %d", l, text, back, e)
				}
			}
		}
	}
}

func TestJoinOfWhatWasScanned(t *testing.T) {
	texts(3, []string{"a", "1", "\"\\n\"", " ", "..", ".", "=", "==", "/* */", "/", "*", "-", "for"}, func(s string) {
		l, _, e := token.Scan(s)
		if e != api.OK {
			return
		}
		text, e := token.Join(l)
		back, _, e2 := token.Scan(text)
		if e != api.OK || e2 != api.OK || !slices.Equal(without(back), without(l)) || len(text) > len(s) {
			t.Fatalf("%q: %q %d %d", s, text, e, e2)
		}
	})
	if s, e := token.Join(nil); s != "" || e != api.OK {
		t.Error(s, e)
	}
	l := []token.Token{{token.Sign, "=", 0, 5}, {token.Sign, "=", 0, 5}}
	if s, e := token.Join(l); s != "= =" || e != api.OK {
		t.Error(s, e)
	}
}

func TestJoinErrors(t *testing.T) {
	wrong := token.Token{Kind: 9}
	long := token.Token{Kind: token.String, Text: strings.Repeat("x", api.MaxSource-2)}
	if s, e := token.Join([]token.Token{long}); len(s) != api.MaxSource || e != api.OK {
		t.Error(len(s), e)
	}
	longer := token.Token{Kind: token.String, Text: long.Text + "x"}
	a := token.Token{Kind: token.Name, Text: "a"}
	for _, l := range [][]token.Token{{longer}, {long, a}, {a, long}, {{Kind: token.String, Text: strings.Repeat("\x00", api.MaxSource/4)}}} {
		if s, e := token.Join(l); s != "" || e != api.ErrLarge {
			t.Error(len(s), e)
		}
	}
	for _, l := range [][]token.Token{{wrong}, {a, wrong}, {longer, wrong}, {long, a, wrong, a}} {
		if s, e := token.Join(l); s != "" || e != api.ErrForm {
			t.Error(len(s), e)
		}
	}
	full := slices.Repeat([]token.Token{a}, api.MaxSource/2)
	if s, e := token.Join(full); len(s) != api.MaxSource-1 || e != api.OK {
		t.Error(len(s), e)
	}
	full = append(full, token.Token{Kind: token.Sign, Text: ";"})
	if s, e := token.Join(full); len(s) != api.MaxSource || e != api.OK {
		t.Error(len(s), e)
	}
	if s, e := token.Join(append(full, token.Token{Kind: token.Sign, Text: ";"})); s != "" || e != api.ErrLarge {
		t.Error(len(s), e)
	}
}

// TestBetween puts white space and comments between, ahead of and behind tokens.
func TestBetween(t *testing.T) {
	gaps := []string{" ", "\t", "\r\n", "// x \" /*\n", "/**/", "/* /* */ // */", " /***/ ", "/*/*/**/*/*/"}
	l := pool()
	text := ""
	for i, x := range l {
		s, _ := token.Write(x)
		if strings.HasSuffix(text, "/") { // or it would begin a comment
			text += " "
		}
		text += gaps[i%len(gaps)] + gaps[(i/3)%len(gaps)] + s
		l[i].At = len(text) - len(s)
	}
	got, _, e := token.Scan(text + "// end")
	if e != api.OK || !slices.Equal(got, l) {
		t.Fatal(got, e)
	}
}

// TestPlaces looks at the texts of tokens at their places, and at what stands between.
func TestPlaces(t *testing.T) {
	text := "a /* 1 */ 22 for\n// x\n \"s\\x41\" <= .. /**/ =;"
	l, _, _ := token.Scan(text)
	last := 0
	for _, x := range l {
		if x.At < last {
			t.Fatal("not in order", x)
		}
		if between, _, e := token.Scan(text[last:x.At]); len(between) > 0 || e != api.OK {
			t.Fatal(between, e)
		}
		_, n, e := plainToken(text[x.At:])
		one, _, e2 := token.Scan(text[x.At : x.At+n])
		if e != api.OK || e2 != api.OK || len(one) != 1 || one[0].Text != x.Text || one[0].Kind != x.Kind {
			t.Fatal(x, one)
		}
		last = x.At + n
	}
	if between, _, e := token.Scan(text[last:]); len(l) != 8 || len(between) > 0 || e != api.OK {
		t.Fatal(l, between, e)
	}
}

func TestPlace(t *testing.T) {
	for _, text := range []string{"", "a", "\n", "ab\n\nc\r\nd", "\n\n", "ä\nö", strings.Repeat("x\n", api.MaxSource)} {
		line, column := 1, 1
		for at := 0; at <= len(text); at++ {
			if at < 50 || at > len(text)-50 {
				if l, c, e := token.Place(text, at); l != line || c != column || e != api.OK {
					t.Fatalf("%d: %d %d %d, want %d %d", at, l, c, e, line, column)
				}
			}
			column++
			if at < len(text) && text[at] == '\n' {
				line, column = line+1, 1
			}
		}
		for _, at := range []int{-1, len(text) + 1, math.MinInt, math.MaxInt} {
			if l, c, e := token.Place(text, at); l != 0 || c != 0 || e != api.ErrRange {
				t.Error(l, c, e)
			}
		}
	}
}

func TestCheckAndWrite(t *testing.T) {
	for _, x := range pool() {
		x.At = 7
		if e := token.Check(x); e != api.OK {
			t.Error(x, e)
		}
		text, e := token.Write(x)
		back, _, e2 := token.Scan(text)
		x.At = 0
		if e != api.OK || e2 != api.OK || !slices.Equal(back, []token.Token{x}) {
			t.Error(x, text, e, e2)
		}
		for _, wrong := range []token.Token{{x.Kind, x.Text, x.Value, -1}, {x.Kind, x.Text, x.Value + 1, 0}, {x.Kind, x.Text, x.Value - 1, 0}, {0, x.Text, x.Value, 0}, {6, x.Text, x.Value, 0}, {-1, x.Text, x.Value, math.MinInt}} {
			if e := token.Check(wrong); e != api.ErrForm {
				t.Error(wrong, e)
			}
			if s, e := token.Write(wrong); s != "" || e != api.ErrForm {
				t.Error(wrong, s, e)
			}
		}
	}
}

// TestCheckOfAllTexts asks of each kind whether texts are right: exactly if they are scanned as one token of the kind.
func TestCheckOfAllTexts(t *testing.T) {
	words := []string{"", " ", "a", "A1", "_", "1", "0", "00", "01", "-1", "+1", "for", "For", "for ", " for", "as assert", "n n", "a b", "=", "==", "= =", "!= &&", "===", "..", "...", "&", "|", "&&", "@", "ä", "a.b", "\"", "\"a\"", "//", "/*", "/**/", "+-", strings.Repeat("x", 40), strings.Repeat("x", 41), "9223372036854775807", "9223372036854775808", "\x00", "!\x00"}
	words = append(words, token.Keywords()...)
	words = append(words, token.Signs()...)
	for _, w := range words {
		l, _, e := token.Scan(w)
		for _, kind := range []int{token.Name, token.Keyword, token.Number, token.Sign} {
			value, _ := strconv.Atoi(w)
			if kind != token.Number {
				value = 0
			}
			right := e == api.OK && len(l) == 1 && l[0].Kind == kind && l[0].Text == w
			if got := token.Check(token.Token{Kind: kind, Text: w, Value: value}); (got == api.OK) != right || got != api.OK && got != api.ErrForm {
				t.Errorf("%d %q: %d", kind, w, got)
			}
		}
		if right := e == api.OK && len(l) == 1 && l[0].Kind == token.Name && l[0].Text == w; token.IsName(w) != right {
			t.Errorf("IsName(%q)", w)
		}
		if e := token.Check(token.Token{Kind: token.String, Text: w}); e != api.OK {
			t.Errorf("%q: %d", w, e)
		}
	}
}

// TestWriteOfStrings writes each byte, with its escape where it has one.
func TestWriteOfStrings(t *testing.T) {
	for c := range 256 {
		want := string([]byte{byte(c)})
		switch {
		case c == '\\':
			want = `\\`
		case c == '"':
			want = `\"`
		case c == '\n':
			want = `\n`
		case c == '\t':
			want = `\t`
		case c < 32 || c > 126:
			want = `\x` + strconv.FormatInt(int64(c)+256, 16)[1:]
		}
		text := "a" + string([]byte{byte(c)}) + "b"
		got, e := token.Write(token.Token{Kind: token.String, Text: text})
		if got != `"a`+want+`b"` || e != api.OK {
			t.Errorf("%d: %s %d", c, got, e)
		}
		if l, _, e := token.Scan(got); e != api.OK || len(l) != 1 || l[0].Text != text {
			t.Error(got, l, e)
		}
	}
}
