package param_test

import (
	"slices"
	"strings"
	"testing"

	"raddle/api"
	"raddle/param"
	"raddle/syntax"
)

// statement reads a statement.
func statement(t *testing.T, text string) api.Node {
	t.Helper()
	return program(t, "proc main() { "+text+" }").Procs[0].Body[0]
}

// TestPut asks which names are replaced in trees: k is 7, b is true.
func TestPut(t *testing.T) {
	l := []param.Const{{"k", number(1)}, {"b", truth(true)}, {"k", number(7)}}
	for _, c := range [][2]string{
		{"write(k + x, b);", "write(7 + x, true);"},
		{"k = k;", "k = 7;"},
		{"k[k] = k;", ""},
		{"a[k] += b;", "a[7] += true;"},
		{"var k = k;", "var k = 7;"},
		{"{ write(k); var k = k; write(k, b); { write(k); } }", "{ write(7); var k = 7; write(k, true); { write(k); } }"},
		{"{ { var k = 1; } write(k); }", "{ { var k = 1; } write(7); }"},
		{"{ var a: [{1..k}] int; var k: [{1..k}] int; }", "{ var a: [{1..7}] int; var k: [{1..7}] int; }"},
		{"{ param k = 2; write(k); }", "{ param k = 2; write(k); }"},
		{"for k in 1..k { write(k, b); }", "for k in 1..7 { write(k, true); }"},
		{"for (k, b) in {1..k, 1..2} { write(k, b); }", "for (k, b) in {1..7, 1..2} { write(k, b); }"},
		{"coforall i in k..2 { write(i, k); }", "coforall i in 7..2 { write(i, 7); }"},
		{"forall i in 1..k with (+ reduce k, && reduce b) { k += k; }", "forall i in 1..7 with (+ reduce k, && reduce b) { k += 7; }"},
		{"forall k in 1..k with (+ reduce s) { s += k; }", "forall k in 1..7 with (+ reduce s) { s += k; }"},
		{"if b { var k = 1; write(k); } else { write(k); }", "if true { var k = 1; write(k); } else { write(7); }"},
		{"while k > 1 { k = k + 1; }", "while 7 > 1 { k = 7 + 1; }"},
		{"{ for k in 1..2 { } write(k); }", "{ for k in 1..2 { } write(7); }"},
		{"cobegin { { var k = 1; } { write(k); } }", "cobegin { { var k = 1; } { write(7); } }"},
		{"f(k, int, g(b));", "f(7, int, g(true));"},
		{"on k { sync { begin { write(k); } } }", "on 7 { sync { begin { write(7); } } }"},
		{"c.writeEF(k);", "c.writeEF(7);"},
	} {
		want := api.Node{}
		if c[1] == "" {
			want = api.Node{Op: api.Assign, Name: "=", Kids: []api.Node{{Op: api.Index, Kids: []api.Node{number(7), number(7)}}, number(7)}}
		} else {
			want = statement(t, c[1])
		}
		if got := param.Put(statement(t, c[0]), l); !syntax.Same(got, want) {
			t.Errorf("Put(%s) = %v, want %v", c[0], got, want)
		}
		if got := param.Put(statement(t, c[0]), nil); !syntax.Same(got, statement(t, c[0])) {
			t.Errorf("Put(%s) without constants = %v", c[0], got)
		}
		unused := []param.Const{{"q", number(1)}, {"f", truth(true)}, {"int", number(3)}}
		if got := param.Put(statement(t, c[0]), unused); !syntax.Same(got, statement(t, c[0])) {
			t.Errorf("Put(%s) with constants that it does not use = %v", c[0], got)
		}
	}
}

// TestPutRaw asks for trees and values of no right shape.
func TestPutRaw(t *testing.T) {
	k, x := api.Node{Op: api.Name, Name: "k"}, api.Node{Op: api.Name, Name: "x"}
	odd := api.Node{Op: 99, Name: "odd", Num: -3, Kids: []api.Node{k}}
	declares := api.Node{Op: api.Var, Name: "k"}
	n := func(op, num int, kids ...api.Node) api.Node { return api.Node{Op: op, Num: num, Kids: kids} }
	for i, c := range [][2]api.Node{
		{k, odd},
		{{Op: api.Name, Name: "k", Num: 4, Kids: []api.Node{x}}, odd},
		{{Op: api.Name, Name: "x", Kids: []api.Node{k}}, {Op: api.Name, Name: "x", Kids: []api.Node{odd}}},
		{n(99, 0, k, declares, k), n(99, 0, odd, declares, k)},
		{n(99, 0, n(99, 0, declares), k), n(99, 0, n(99, 0, declares), odd)},
		{n(api.For, 1, k, k, k, k), n(api.For, 1, k, odd, k, odd)},
		{n(api.For, 2, k, x, k, k), n(api.For, 2, k, x, odd, k)},
		{n(api.For, 0, k, k), n(api.For, 0, odd, odd)},
		{n(api.For, 1, k, k), n(api.For, 1, odd, odd)},
		{n(api.For, 3, k, k, k, k, k), n(api.For, 3, odd, odd, odd, odd, odd)},
		{n(api.For, -1, k, k), n(api.For, -1, odd, odd)},
		{n(api.While, 1, k, k, k), n(api.While, 1, odd, odd, odd)},
		{n(api.Assign, 0, k, k, k), n(api.Assign, 0, k, odd, odd)},
		{n(api.Assign, 0), n(api.Assign, 0)},
		{n(api.Str, 0, k), n(api.Str, 0, odd)},
		{n(api.Intent, 0, k), n(api.Intent, 0, k)},
		{{Op: api.Call, Name: "k"}, {Op: api.Call, Name: "k"}},
		{{Op: api.Type, Name: "k"}, {Op: api.Type, Name: "k"}},
		{chain(100000, k), chain(100000, odd)},
	} {
		if got := param.Put(c[0], []param.Const{{"k", odd}}); !syntax.Same(got, c[1]) {
			t.Errorf("%d: Put is %v, want %v", i, got, c[1])
		}
	}
}

// TestBlock asks for statements without params.
func TestBlock(t *testing.T) {
	l := []param.Const{{"k", number(7)}, {"b", truth(true)}}
	for _, c := range [][2]string{
		{"param n = 2; if n == 1 { a(); } else { b(n); }", "{ b(2); }"},
		{"write(k);", "write(7);"},
		{"var k = k; write(k); if k == 7 { write(1); }", "var k = 7; write(k); if k == 7 { write(1); }"},
		{"param k = k + 1; write(k); { param k = k + 1; write(k); } write(k);", "write(8); { write(9); } write(8);"},
		{"param p = b; param q: bool = !p; param r: int = 3; write(p, q, r);", "write(true, false, 3);"},
		{"if k > 7 { write(1); }", "{ }"},
		{"if b { write(1); } else { param e = x; }", "{ write(1); }"},
		{"if !b { param e = x; } else { write(2); }", "{ write(2); }"},
		{"if x { param p = 1; write(p); } else { param p = 2; write(p); }", "if x { write(1); } else { write(2); }"},
		{"if 2 > 1 { if 1 > 2 { write(1); } else { param p = 3; write(p, k); } }", "{ { write(3, 7); } }"},
		{"while k > 8 { param p = 1; k = p; }", "while 7 > 8 { k = 1; }"},
		{"for k in 1..k { param p = 1; write(k, p); if k == 7 { } }", "for k in 1..7 { write(k, 1); if k == 7 { } }"},
		{"forall i in 1..k with (+ reduce k) { k += p(k); }", "forall i in 1..7 with (+ reduce k) { k += p(7); }"},
		{"forall k in 1..k with (+ reduce s) { param p = 1; s += k + p; }", "forall k in 1..7 with (+ reduce s) { s += k + 1; }"},
		{"begin { param p = k; write(p); } cobegin { { param p = 1; } { write(p); } }", "begin { write(7); } cobegin { { } { write(p); } }"},
		{"sync { param p = 1; } on k { param p = 2; write(p); }", "sync { } on 7 { write(2); }"},
		{"{ var k = 1; { write(k); if k == 7 { } } } write(k);", "{ var k = 1; { write(k); if k == 7 { } } } write(7);"},
		{"{ param z = 1; } write(z);", "{ } write(z);"},
		{"param z = 1; var z = z; write(z);", "var z = 1; write(z);"},
		{"const z = 3; if z == 3 { write(z); }", "const z = 3; if z == 3 { write(z); }"},
		{"if 3 { write(1); } else { write(2); }", "{ write(1); }"},
		{"if 0 { write(1); } else { write(2); }", "{ write(2); }"},
		{"", ""},
	} {
		body := program(t, "proc main() { "+c[0]+" }").Procs[0].Body
		want := program(t, "proc main() { "+c[1]+" }").Procs[0].Body
		got, e := param.Block(body, l)
		if e != api.OK || !slices.EqualFunc(got, want, syntax.Same) {
			t.Errorf("Block(%s) = %v, %v, want %s", c[0], got, e, c[1])
		}
		again, e := param.Block(got, nil)
		if e != api.OK || !slices.EqualFunc(again, want, syntax.Same) {
			t.Errorf("Block of Block(%s) = %v, %v", c[0], again, e)
		}
	}
}

// TestBlockErrors asks for the errors of statements with params, and for their order.
func TestBlockErrors(t *testing.T) {
	for text, want := range map[string]api.Errno{
		"param p = x;":                         param.ErrStatic,
		"param p: bool = 1;":                   param.ErrStatic,
		"param p: int = true;":                 param.ErrStatic,
		"param p: range = 1..2;":               param.ErrStatic,
		"param p = 1..2;":                      param.ErrStatic,
		"param p: [1] int = 1;":                param.ErrStatic,
		"param p: t = 1;":                      param.ErrStatic,
		"param p = 1 / 0;":                     param.ErrStatic,
		"param p = p;":                         param.ErrStatic,
		"var p = 1; param q = p;":              param.ErrStatic,
		"param p = 1; var p = 2; param q = p;": param.ErrStatic,
		"for i in 1..2 { param p = i; }":       param.ErrStatic,
		"begin { { param p = x; } }":           param.ErrStatic,
		"if x { } else { param p = x; }":       param.ErrStatic,
		"if true { param p = x; }":             param.ErrStatic,
		"if false { param p = x; }":            api.OK,
		"write(1);":                            api.OK,
	} {
		body := program(t, "proc main() { "+text+" }").Procs[0].Body
		if got, e := param.Block(body, nil); e != want || e != api.OK && got != nil {
			t.Errorf("Block(%s) = %v, %v, want %v", text, got, e, want)
		}
	}
	bad := []param.Const{{"k", api.Node{}}}
	static := api.Node{Op: api.Var, Name: "p", Num: api.HasType | api.IsParam, Kids: []api.Node{{Op: api.Type, Name: "int"}}}
	deep := api.Node{Op: api.Assert, Kids: []api.Node{chain(60, number(1))}}
	large := api.Node{Op: api.Write, Kids: slices.Repeat([]api.Node{number(1)}, 4000)}
	fits := api.Node{Op: api.Write, Kids: slices.Repeat([]api.Node{number(1)}, 3999)}
	for i, c := range []struct {
		l    []api.Node
		c    []param.Const
		want api.Errno
	}{
		{[]api.Node{static}, nil, param.ErrStatic},
		{[]api.Node{static, {}}, nil, api.ErrForm},
		{[]api.Node{{Op: api.Return}}, bad, api.ErrArgument},
		{[]api.Node{{}}, bad, api.ErrArgument},
		{nil, bad, api.ErrArgument},
		{[]api.Node{number(1)}, nil, api.ErrForm},
		{[]api.Node{{Op: api.Type, Name: "int"}}, nil, api.ErrForm},
		{[]api.Node{{Op: api.Intent, Name: "+", Kids: []api.Node{{Op: api.Name, Name: "x"}}}}, nil, api.ErrForm},
		{[]api.Node{static, deep, large}, nil, api.ErrDepth},
		{[]api.Node{static, large, deep}, nil, api.ErrCount},
		{[]api.Node{number(1), large}, nil, api.ErrForm},
		{[]api.Node{fits, fits}, nil, api.OK},
	} {
		if got, e := param.Block(c.l, c.c); e != c.want || e != api.OK && got != nil {
			t.Errorf("%d: Block = %v, want %v", i, e, c.want)
		}
	}
}

// TestFold asks for programs without params.
func TestFold(t *testing.T) {
	for _, c := range []struct {
		text, want string
		e          api.Errno
	}{
		{"param n = 2; var x = n; proc main() { write(n, x); }", "var x = 2; proc main() { write(2, x); }", api.OK},
		{"proc main() { write(n); } param n = 2;", "proc main() { write(2); }", api.OK},
		{"var x = n; param n = 2; param m = n * n; var y = m;", "var x = n; var y = 4;", api.OK},
		{"param n = 2; proc f(n: int, m: int): int where n > m && n > 0 { return n; }", "proc f(n: int, m: int): int where n > m && n > 0 { return n; }", api.OK},
		{"param n = 2; proc f(x: int): int where n > 1 { return n; }", "proc f(x: int): int where 2 > 1 { return 2; }", api.OK},
		{"param n = 2; proc f(type n, param m: int) { g(n, m); } proc h(param m: int) where m > n { write(n); }", "proc f(type n, param m: int) { g(n, m); } proc h(param m: int) where m > 2 { write(2); }", api.OK},
		{"param n = 2; proc f() { var n = n; write(n); } proc g() { if n == 2 { write(1); } }", "proc f() { var n = 2; write(n); } proc g() { { write(1); } }", api.OK},
		{"param n = 2; var n = n; var y = n; proc f() { write(n); }", "var n = 2; var y = n; proc f() { write(n); }", api.OK},
		{"private proc f(): ?t { } iter g(in x: ?t): int { yield x; }", "private proc f(): ?t { } iter g(in x: ?t): int { yield x; }", api.OK},
		{"param n = x; proc main() { }", "", param.ErrStatic},
		{"proc f(param n: int) { param m = n + 1; }", "", param.ErrStatic},
		{"param n = 1; proc f(n: int) { param m = n; }", "", param.ErrStatic},
		{"proc f(t: int) { param m = 1; write(m, t); }", "proc f(t: int) { write(1, t); }", api.OK},
	} {
		p := program(t, c.text)
		got, e := param.Fold(p)
		if e != c.e {
			t.Errorf("Fold(%s): %v, want %v", c.text, e, c.e)
			continue
		}
		if want := program(t, c.want); !same(got, want) {
			t.Errorf("Fold(%s) = %v, want %v", c.text, got, want)
		}
		if again, e := param.Fold(got); e != api.OK || !same(again, got) {
			t.Errorf("Fold of Fold(%s) = %v, %v", c.text, again, e)
		}
		if !same(p, program(t, c.text)) {
			t.Errorf("Fold(%s) has changed it", c.text)
		}
	}
	wrong := program(t, "param n = x;")
	wrong.Procs = []api.Proc{{}}
	if got, e := param.Fold(wrong); e != api.ErrForm || got.Globals != nil || got.Procs != nil {
		t.Errorf("Fold of no right form = %v, %v", got, e)
	}
	where := program(t, strings.Repeat("var x = 1; ", 3))
	where.Globals[2].Kids[0] = chain(60, number(1))
	if _, e := param.Fold(where); e != api.ErrDepth {
		t.Errorf("Fold of a deep program: %v", e)
	}
}

// same reports whether programs are the same.
func same(a, b api.Program) bool {
	module := func(p api.Program) []syntax.Module {
		m := syntax.Module{Procs: p.Procs}
		for _, g := range p.Globals {
			m.Globals = append(m.Globals, syntax.Global{Var: g})
		}
		return []syntax.Module{m}
	}
	return syntax.Equal(module(a), module(b))
}
