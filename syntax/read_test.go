package syntax_test

import (
	"slices"
	"strings"
	"testing"

	"raddle/api"
	"raddle/syntax"
	"raddle/token"
)

// TestReadRandom reads random modules back from texts with more brackets and gaps than are needed.
func TestReadRandom(t *testing.T) {
	r := newRandom(1)
	for range 1500 {
		l := r.modules()
		text := r.looseText(l)
		got, at, e := syntax.Read(text)
		if e != api.OK || at != 0 || !syntax.Equal(got, l) {
			t.Fatalf("%s\n%d %d\n%v\n%v", text, at, e, got, l)
		}
	}
}

func TestReadExprRandom(t *testing.T) {
	r := newRandom(2)
	for range 3000 {
		n := r.expr(4)
		text := r.looseExpr(n)
		got, at, e := syntax.ReadExpr(text)
		if e != api.OK || at != 0 || !syntax.Same(got, n) {
			t.Fatalf("%s\n%d %d\n%v\n%v", text, at, e, got, n)
		}
	}
}

// changes makes a list of tokens a different one, at a random place.
func (r random) changes(l []token.Token) []token.Token {
	l = slices.Clone(l)
	at := r.Intn(len(l) + 1)
	other, _, _ := token.Scan(r.one("a size read x domain write int bool if then else for forall in with reduce min + - * / % # ! . .. , ; : = += == < && || ( ) [ ] { } 1 2 3 \"s\" by dmapped block blockcyclic cyclic return yield true here var const param private proc iter use import as only where type ? sync begin cobegin on assert module void ref"))
	switch r.Intn(4) {
	case 0:
		return slices.Insert(l, at, other...)
	case 1:
		return l[:at]
	}
	if at == len(l) {
		at--
	}
	if at < 0 {
		return other
	}
	switch r.Intn(3) {
	case 0:
		l[at] = other[0]
	case 1:
		return slices.Delete(l, at, at+1)
	case 2:
		other := r.Intn(len(l))
		l[at], l[other] = l[other], l[at]
	}
	return l
}

// TestReadLikeTheGrammar compares with a recognizer of the grammar, for texts in which something is wrong (or not), the first token that cannot stand.
func TestReadLikeTheGrammar(t *testing.T) {
	r := newRandom(3)
	all := readGrammar(grammar)
	results := map[api.Errno]int{}
	for range 2500 {
		tokens := r.smallText()
		for range 1 + r.Intn(2) {
			tokens = r.changes(tokens)
		}
		text, _ := token.Join(tokens)
		tokens, _, _ = token.Scan(text)
		wantAt, want := all.expected("text", text, tokens)
		_, at, e := syntax.Read(text)
		if at != wantAt || e != want {
			t.Fatalf("%s\n%d %d, want %d %d", text, at, e, wantAt, want)
		}
		results[e]++
	}
	if results[api.OK] < 50 || results[syntax.ErrToken] < 1000 || results[syntax.ErrEnd] < 100 {
		t.Error("the texts are no mixture", results)
	}
}

// smallText returns the tokens of one module with a few statements.
func (r random) smallText() []token.Token {
	m := syntax.Module{Name: "M"}
	switch r.Intn(4) {
	case 0:
		m = r.module()
		m.Procs = nil
	case 1:
		m.Procs = []api.Proc{r.proc()}
		m.Procs[0].Body = nil
	default:
		m.Procs = []api.Proc{{Name: "p", Result: api.Node{Op: api.Type, Name: "void"}, Body: []api.Node{r.statement(1)}}}
	}
	tokens, _, _ := token.Scan(r.looseText([]syntax.Module{m}))
	return tokens
}

func TestReadExprLikeTheGrammar(t *testing.T) {
	r := newRandom(4)
	all := readGrammar(grammar)
	for range 2500 {
		text := r.looseExpr(r.expr(2))
		if r.Intn(2) == 0 {
			text, _ = syntax.Expr(r.expr(3))
		}
		tokens, _, _ := token.Scan(text)
		for range 1 + r.Intn(2) {
			tokens = r.changes(tokens)
		}
		text, _ = token.Join(tokens)
		tokens, _, _ = token.Scan(text)
		wantAt, want := all.expected("expr", text, tokens)
		if _, at, e := syntax.ReadExpr(text); at != wantAt || e != want {
			t.Fatalf("%s\n%d %d, want %d %d", text, at, e, wantAt, want)
		}
	}
}

// TestReadAllShortExprs reads all lists of up to five tokens, as far as they are right.
func TestReadAllShortExprs(t *testing.T) {
	all := readGrammar(grammar)
	for _, words := range []string{"a 1 - .. by ( )", "a . size x read ( ) [ ]", "- ! 1 [ ] . size", "if then else a + reduce", "{ } a , dmapped block blockcyclic ( )", "a == < && || # .."} {
		parts := strings.Fields(words)
		var visit func(text string, left int)
		visit = func(text string, left int) {
			tokens, _, _ := token.Scan(text)
			wantAt, want := all.expected("expr", text, tokens)
			if _, at, e := syntax.ReadExpr(text); at != wantAt || e != want {
				t.Fatalf("%s\n%d %d, want %d %d", text, at, e, wantAt, want)
			}
			if want == syntax.ErrToken || left == 0 {
				return
			}
			for _, p := range parts {
				visit(strings.TrimPrefix(text+" "+p, " "), left-1)
			}
		}
		visit("", 5)
	}
}

// marked returns a text without its mark ^, and the place where that stood.
func marked(text string) (string, int) {
	at := strings.Index(text, "^")
	return strings.Replace(text, "^", "", 1), at
}

// TestReadErrors has a ^ ahead of the first token that cannot stand, or at the end of a text that ends too early.
func TestReadErrors(t *testing.T) {
	statement := func(s string) string { return "module M { proc f() { " + s }
	texts := []string{
		"^x", "module ^{", "module ^if {", "module M ^;", "module M {} ^}", "module M { ^x; }", "module M { use ^use; }", "module M { use N only^; }", "module M { use N only a ^b; }", "module M { use N^, O; }",
		"module M { import N ^; }", "module M { import N as ^in; }", "module M { private ^use N; }", "module M { private ^import N as P; }", "module M { proc f^; }", "module M { proc f(a^) {} }",
		"module M { proc f(^ref a: int) {} }", "module M { proc f(type t^: int) {} }", "module M { proc f(a: int,^) {} }", "module M { proc f() where {^} }", "module M { proc f() ^; }", "module M { proc ^proc() {} }",
		"module M { var x^; }", "module M { const x: int^; }", "module M { param x: bool^; }", "module M { const x^; }", "module M { var x: ^; }", "module M { var x: domain(^3); }", "module M { var x: domain(^0) = 1; }", "module M { var x: array(^a); }", "module M { var x: [1..2]^; }", "module M { var x: [1..2] ^bool; }", "module M { var x: ?^int; }", "module M { var x: domain ^= 1; }", "module M { var ^1; }",
		statement("1^; } }"), statement("x^; } }"), statement("x.size^; } }"), statement("x[1]^; } }"), statement("f() ^= 1; } }"), statement("f() ^+ 1; } }"), statement("P.x ^= 1; } }"), statement("P.x^; } }"), statement("x.size ^= 1; } }"), statement("(x + 1)^; } }"), statement("x ^== 1; } }"), statement("{1 ^.. 2} } }"), statement("(f())[1]^; } }"),
		statement("x = ^; } }"), statement("x = 1 ^} }"), statement("for ^1 in x {} } }"), statement("for (i^) in x {} } }"), statement("for (i, j^, k) in x {} } }"), statement("for i in x ^with (+ reduce s) {} } }"), statement("coforall i in x ^with (+ reduce s) {} } }"), statement("forall i in x with (^) {} } }"), statement("forall i in x with (^- reduce s) {} } }"), statement("forall i in x with (^reduce s) {} } }"), statement("forall i in x with (+ reduce ^1) {} } }"),
		statement("if x ^; } }"), statement("if x {} else ^while x {} } }"), statement("while {^} } }"), statement("cobegin { ^x = 1; } } }"), statement("begin ^x = 1; } }"), statement("return 1 ^2; } }"), statement("yield^; } }"), statement("write(\"a\" ^+ 1); } }"), statement("write(1,^); } }"), statement("assert(^); } }"), statement("assert(1^, 2); } }"), statement("^\"a\"; } }"), statement("^min(1); } }"), statement("^else; } }"),
		statement("x = ^\"a\"; } }"),
		"module^", "module M^", "module M {^", "module M { use N^", "module M { var x^", "module M { const x: int^", "module M { proc f(^", "module M { proc f() {^", statement("x^"), statement("x[^"), statement("f()^"), statement("x.^"), statement("x.read^"), statement("x.read(^"), statement("x = 1;^"), statement("x = 1; }^"), statement("return^"), statement("if x {} else^"), "module M { var x: domain(^",
	}
	for _, text := range texts {
		text, want := marked(text)
		code := syntax.ErrToken
		if want == len(text) {
			code = syntax.ErrEnd
		}
		checkRead(t, text, want, code)
	}
}

func checkRead(t *testing.T, text string, want int, code api.Errno) {
	t.Helper()
	l, at, e := syntax.Read(text)
	if len(l) > 0 && code != api.OK || at != want || e != code {
		t.Errorf("%s\n%d %d, want %d %d", text, at, e, want, code)
	}
}
