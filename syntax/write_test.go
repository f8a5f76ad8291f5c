package syntax_test

import (
	"strings"
	"testing"

	"raddle/api"
	"raddle/syntax"
	"raddle/token"
)

// canonical is the canonical text of modules in which each part of the language stands.
const canonical = `module M {
  use N;
  use N only a, b;
  use O except c;
  import N as P;
  private var x: int;
  var y = 1;
  const z: bool = true;
  private param w = false;
  var d: domain(2) = {1..2, 1..3 by -2} dmapped block;
  var e: [d] int;
  proc f(in a: int, b: ?t): int where a > 0 {
  }
  private iter g(type t, param n: range, const c: [{1..n}] int, d: array(1), e: t): [d] int {
    yield 1;
  }
  private proc h() {
    return;
  }
  proc void0(a: void, b: sync, c: atomic, d: domain(1), e: array(2)) {
  }
  iter main() {
    var x = -5;
    const y: int = 2;
    param z = x;
    x = 1;
    x[1] += 2;
    x[1, y] -= 3;
    f(1)[2] *= P.x[3];
    f();
    P.f(1, int, domain(2), x);
    c.readFE();
    c.compareAndSwap(1, 2);
    {
      x = 1;
      {
      }
    }
    if a {
    }
    if a == b {
      x = 1;
    } else {
      if c {
      } else {
        x = 2;
      }
    }
    while !a && b {
    }
    for i in 1..9 by 2 # 3 {
      write();
    }
    for (i, j) in d {
    }
    forall i in d {
    }
    forall (i, j) in d with (+ reduce s, max reduce t, && reduce u) {
    }
    coforall i in 0..numLocales - 1 {
      on here + 1 {
      }
    }
    begin {
    }
    cobegin {
      {
        x = 1;
      }
      {
      }
    }
    sync {
    }
    return + reduce x;
    return if a then b else if c then d else e;
    yield min reduce {1..2};
    write("a\n", 1, "", x.size, "\x00");
    assert(x.domain.low < y.high);
  }
}
module N {
}
`

func TestCanonicalText(t *testing.T) {
	l, at, e := syntax.Read(canonical)
	if e != api.OK || len(l) != 2 {
		t.Fatal(at, e, canonical[max(0, at-20):at])
	}
	text, e := syntax.Write(l)
	if e != api.OK || text != canonical {
		t.Errorf("%s\n%d", text, e)
	}
	if text, e := syntax.Write(nil); text != "" || e != api.OK {
		t.Error(text, e)
	}
	l, _, _ = syntax.Read("module M{proc f(){if a{}else if b{}else{}}var x=1;use N;private proc g():void{}var y=2;import N as O;}")
	want := "module M {\n  use N;\n  import N as O;\n  var x = 1;\n  var y = 2;\n  proc f() {\n    if a {\n    } else {\n      if b {\n      } else {\n      }\n    }\n  }\n  private proc g() {\n  }\n}\n"
	if text, e := syntax.Write(l); text != want || e != api.OK {
		t.Errorf("%s\n%d", text, e)
	}
}

func TestWriteExample(t *testing.T) {
	l, _, e := syntax.Read(`module M { proc main() { for i in 1..9 by 2 { write(-i * (2 + i), "x"); } } }`)
	want := "module M {\n  proc main() {\n    for i in 1..9 by 2 {\n      write(-i * (2 + i), \"x\");\n    }\n  }\n}\n"
	if text, e2 := syntax.Write(l); text != want || e != api.OK || e2 != api.OK {
		t.Error(text, e, e2)
	}
}

// TestExprTexts has expressions as they are written, and trees alone that need their brackets.
func TestExprTexts(t *testing.T) {
	for _, text := range []string{
		"a || b && c == d < e by 1", "(a || b) && c", "a && (b || c)", "a || b || c", "a || (b || c)", "a == b == c", "a == (b == c)", "1 - 2 - 3", "1 - (2 - 3)", "1 * (2 * 3)", "(1 + 2) * 3", "1 + 2 * 3", "-(1 + 2)", "-(1 * 2)", "-a * b", "-(a * b)", "a - -b", "a - -1", "a - (-1).size", "-1 - 1",
		"1..2", "(1..2)..3", "1..(2..3)", "1 + 2..3 * 4", "(1..2) + 3", "1..2 by 3", "1..2 by 3 by 4", "1..2 by 3 # 4 dmapped block by 5", "1..2 by (3..4)", "1..2 by 3 + 4", "1..2 # (a by b)", "a by (b < c)", "(a < b) by c", "a < b by c", "a..b by c == d", "-1..-2", "a.size..b.size", "a by 1..2 + 3"[:6], "d dmapped blockcyclic(if a then b else c)", "(a == b) dmapped hashed", "a == b dmapped cyclic", "1..2 dmapped block",
		"-5", "-(5)", "-(0)", "--5", "!-5", "!5", "-(-5).size", "(-5)[1]", "-5[1]", "-5.size", "-5.read()", "!!a", "--a", "-!a", "!(a && b)", "(-a).size", "-a.size", "(!a)[1]", "-9223372036854775807", "-(9223372036854775807)",
		"(if a then b else c) + 1", "1 + (if a then b else c)", "!(if a then b else c)", "(if a then b else c).size", "if a then b else c + 1", "if if a then b else c then d else e", "f(if a then b else c, + reduce x)", "(+ reduce a) + 1", "+ reduce a + 1", "-(+ reduce a)", "(* reduce a).size", "a[+ reduce b]", "min reduce max reduce a", "&& reduce || reduce a", "{if a then b else c, + reduce d}", "+ reduce if a then b else c", "(if a then b else c)..1", "(|| reduce a) by 2",
		"({1..2}).size", "({1..2})[1]", "({1..2, 3}).read(1)", "{1..2}", "{1..2} dmapped block", "({1..2} dmapped block).size", "!{1}", "{1} + {2}", "f({1})[1, 2]", "(1..2).size", "(a + b)[c + d, e]", "1.size", "true.size", "here.read()", "numLocales[1]", "P.x", "P.f()", "P.x.size.low", "size.size", "read.read()", "a[1][2].domain[3]", "f(int, 1, array(2), void)", "f()", "x.write(1)", "x.exchange(1 + 2)",
	} {
		n, at, e := syntax.ReadExpr(text)
		if e != api.OK {
			t.Errorf("%s: %d %d", text, at, e)
			continue
		}
		if got, e := syntax.Expr(n); got != text || e != api.OK {
			t.Errorf("%s: %s %d", text, got, e)
		}
	}
	name := func(s string) api.Node { return api.Node{Op: api.Name, Name: s} }
	for want, n := range map[string]api.Node{
		"-(5)":      {Op: api.Unary, Name: "-", Kids: []api.Node{{Op: api.Int, Num: 5}}},
		"-(0)":      {Op: api.Unary, Name: "-", Kids: []api.Node{{Op: api.Int}}},
		"--5":       {Op: api.Unary, Name: "-", Kids: []api.Node{{Op: api.Int, Num: -5}}},
		"(-5)[a]":   {Op: api.Index, Kids: []api.Node{{Op: api.Int, Num: -5}, name("a")}},
		"0":         {Op: api.Int},
		"a - -5":    {Op: api.Binary, Name: "-", Kids: []api.Node{name("a"), {Op: api.Int, Num: -5}}},
		"(a..b)..c": {Op: api.RangeOf, Kids: []api.Node{{Op: api.RangeOf, Kids: []api.Node{name("a"), name("b")}}, name("c")}},
	} {
		if got, e := syntax.Expr(n); got != want || e != api.OK {
			t.Errorf("%s: %s %d", want, got, e)
		}
	}
	if n, _, e := syntax.ReadExpr("-0"); e != api.OK || !syntax.Same(n, api.Node{Op: api.Int}) {
		t.Error(n, e)
	}
}

// TestBack writes random modules and reads them back, and reads them again from their tokens.
func TestBack(t *testing.T) {
	r := newRandom(5)
	for range 1500 {
		l := r.modules()
		text, e := syntax.Write(l)
		back, _, e2 := syntax.Read(text)
		if e != api.OK || e2 != api.OK || !syntax.Equal(back, l) {
			t.Fatalf("%s\n%d %d\n%v\n%v", text, e, e2, back, l)
		}
		if again, e := syntax.Write(back); again != text || e != api.OK {
			t.Fatalf("%s\n%s\n%d", text, again, e)
		}
		tokens, _, _ := token.Scan(text)
		short, _ := token.Join(tokens)
		if back, _, e := syntax.Read(short); e != api.OK || !syntax.Equal(back, l) {
			t.Fatalf("%s\n%d", short, e)
		}
	}
}

// TestBrackets takes each pair of brackets away: what is left must not be read as the same expression, but for those of a domain that begins a postfix.
func TestBrackets(t *testing.T) {
	r := newRandom(6)
	for range 2500 {
		n := r.expr(4)
		text, e := syntax.Expr(n)
		if back, _, e2 := syntax.ReadExpr(text); e != api.OK || e2 != api.OK || !syntax.Same(back, n) {
			t.Fatalf("%s %d %d\n%v\n%v", text, e, e2, back, n)
		}
		tokens, _, _ := token.Scan(text)
		for i, open := range tokens {
			if open.Text != "(" || open.Kind != token.Sign {
				continue
			}
			j := closing(tokens, i)
			domain := tokens[i+1].Text == "{" && tokens[j-1].Text == "}" && closing(tokens, i+1) == j-1 && j+1 < len(tokens) && strings.Contains(".[", tokens[j+1].Text)
			rest := append(append(append([]token.Token{}, tokens[:i]...), tokens[i+1:j]...), tokens[j+1:]...)
			shorter, _ := token.Join(rest)
			back, _, e := syntax.ReadExpr(shorter)
			if same := e == api.OK && syntax.Same(back, n); same != domain {
				t.Fatalf("%s: %s", text, shorter)
			}
		}
	}
}

// closing returns the place of the bracket that closes one.
func closing(l []token.Token, at int) int {
	depth := 0
	for i := at; ; i++ {
		switch {
		case l[i].Kind != token.Sign:
		case strings.Contains("([{", l[i].Text):
			depth++
		case strings.Contains(")]}", l[i].Text):
			depth--
		}
		if depth == 0 {
			return i
		}
	}
}

// TestParts puts the text of each statement and of each expression in its place.
func TestParts(t *testing.T) {
	r := newRandom(7)
	statements := 0
	for range 300 {
		m := syntax.Module{Name: "M", Procs: []api.Proc{r.proc()}}
		whole, _ := syntax.Write([]syntax.Module{m})
		for _, s := range m.Procs[0].Body {
			text, e := syntax.Statement(s)
			if e != api.OK || !strings.Contains(whole, "\n    "+text+"\n") {
				t.Fatalf("%s\n%s\n%d", whole, text, e)
			}
			back, _, e := syntax.Read("module M { proc p() {" + text + "} }")
			if e != api.OK || !syntax.Same(back[0].Procs[0].Body[0], s) {
				t.Fatal(text, e)
			}
			statements++
			checkExprs(t, s, whole)
		}
	}
	if statements < 200 {
		t.Error(statements)
	}
}

func checkExprs(t *testing.T, n api.Node, whole string) {
	for _, k := range n.Kids {
		if text, e := syntax.Expr(k); e == api.OK {
			if back, _, e := syntax.ReadExpr(text); !strings.Contains(whole, text) || e != api.OK || !syntax.Same(back, k) {
				t.Fatalf("%s\n%s\n%d", whole, text, e)
			}
		}
		checkExprs(t, k, whole)
	}
}

func TestStatementTexts(t *testing.T) {
	for _, text := range []string{
		"x = 1;", "var x: [d] int;", "{\n    }", "if a {\n      x = 1;\n    } else {\n      return;\n    }", "cobegin {\n      {\n        x = 1;\n      }\n      {\n      }\n    }", "for (i, j) in {1..2, 1..3} {\n      for k in d {\n        f(k);\n      }\n    }", "({1..2}).read();", "({1..2})[1] = 1;", "write(\"\\n\");",
	} {
		l, at, e := syntax.Read("module M { proc f() { " + text + "} }")
		if e != api.OK {
			t.Fatal(text, at, e)
		}
		if got, e := syntax.Statement(l[0].Procs[0].Body[0]); got != text || e != api.OK {
			t.Errorf("%s\n%s\n%d", text, got, e)
		}
	}
}

// TestWriteLimits has texts of just as many bytes as are permitted.
func TestWriteLimits(t *testing.T) {
	long := func(n int) api.Node {
		return api.Node{Op: api.Write, Kids: []api.Node{{Op: api.Str, Name: strings.Repeat("x", n)}}}
	}
	const around = len(`write("");`)
	if text, e := syntax.Statement(long(api.MaxSource - around)); len(text) != api.MaxSource || e != api.OK {
		t.Error(len(text), e)
	}
	if text, e := syntax.Statement(long(api.MaxSource - around + 1)); text != "" || e != api.ErrLarge {
		t.Error(len(text), e)
	}
	module := func(n int) []syntax.Module {
		return []syntax.Module{{Name: "M", Procs: []api.Proc{{Name: "f", Result: api.Node{Op: api.Type, Name: "void"}, Body: []api.Node{long(n)}}}}}
	}
	empty, _ := syntax.Write(module(0))
	if text, e := syntax.Write(module(api.MaxSource - len(empty))); len(text) != api.MaxSource || e != api.OK {
		t.Error(len(text), e)
	}
	if text, e := syntax.Write(module(api.MaxSource - len(empty) + 1)); text != "" || e != api.ErrLarge {
		t.Error(len(text), e)
	}
	if text, e := syntax.Write(append(module(api.MaxSource), syntax.Module{})); text != "" || e != api.ErrForm {
		t.Error(len(text), e)
	}
	name := api.Node{Op: api.Name, Name: strings.Repeat("n", 40)}
	sum := func(n int) api.Node {
		l := make([]api.Node, n)
		for i := range l {
			l[i] = name
		}
		return api.Node{Op: api.Call, Name: "f", Kids: l}
	}
	if text, e := syntax.Expr(sum(952)); len(text) != 952*42+1 || e != api.OK {
		t.Error(len(text), e)
	}
	if text, e := syntax.Expr(sum(953)); text != "" || e != api.ErrLarge {
		t.Error(len(text), e)
	}
}
