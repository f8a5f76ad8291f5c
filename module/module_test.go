package module_test

import (
	"math"
	"math/rand"
	"reflect"
	"slices"
	"strconv"
	"strings"
	"testing"

	"raddle/api"
	"raddle/module"
	"raddle/syntax"
)

// plainOrder is the order by its description.
func plainOrder(l []syntax.Module) []int {
	var order, begun []int
	var put func(i int)
	put = func(i int) {
		if slices.Contains(begun, i) {
			return
		}
		begun = append(begun, i)
		for _, u := range l[i].Uses {
			put(slices.IndexFunc(l, func(m syntax.Module) bool { return m.Name == u.Module }))
		}
		order = append(order, i)
	}
	for i := range l {
		put(i)
	}
	return order
}

// modulesOf packs a program as a module, so that programs can be compared and written.
func modulesOf(p api.Program) []syntax.Module {
	m := syntax.Module{Name: "Program", Procs: p.Procs}
	for _, g := range p.Globals {
		m.Globals = append(m.Globals, syntax.Global{Var: g})
	}
	return []syntax.Module{m}
}

func textOf(p api.Program) string {
	s, _ := syntax.Write(modulesOf(p))
	return s
}

func TestLinkRandom(t *testing.T) {
	r := rand.New(rand.NewSource(1))
	nodes := 0
	for range 1500 {
		w := newWorld(r, true)
		var want api.Program
		for _, i := range plainOrder(w.modules) {
			want.Globals = append(want.Globals, w.globals[i]...)
			want.Procs = append(want.Procs, w.procs[i]...)
		}
		p, at, e := module.Link(w.modules)
		if e != api.OK || at != 0 || !syntax.Equal(modulesOf(p), modulesOf(want)) {
			text, _ := syntax.Write(w.modules)
			t.Fatalf("%s\n%d %d\n%s\n%s", text, at, e, textOf(p), textOf(want))
		}
		n, _ := syntax.Nodes(w.modules)
		nodes += n
	}
	if nodes < 50000 {
		t.Error(nodes)
	}
}

// TestLinkFaults has some wrong names: the first of them decides.
func TestLinkFaults(t *testing.T) {
	r := rand.New(rand.NewSource(2))
	seen := map[fault]int{}
	for range 4000 {
		w := newWorld(r, false)
		want := fault{}
		if len(w.faults) > 0 {
			want = w.faults[0]
		}
		p, at, e := module.Link(w.modules)
		if at != want.module || e != want.code || e != api.OK && len(p.Globals)+len(p.Procs) > 0 {
			text, _ := syntax.Write(w.modules)
			t.Fatalf("%s\n%d %d, want %v", text, at, e, w.faults)
		}
		seen[want]++
	}
	for _, code := range []api.Errno{module.ErrClash, module.ErrUnknown, module.ErrPrivate} {
		for i := range 3 {
			if seen[fault{i, code}] < 3 {
				t.Error(seen)
			}
		}
	}
}

func read(t *testing.T, text string) []syntax.Module {
	t.Helper()
	l, at, e := syntax.Read(text)
	if e != api.OK {
		t.Fatalf("%s: %d %d", text, at, e)
	}
	return l
}

func TestLinkExample(t *testing.T) {
	l := read(t, `module A { use B; import B as P; proc main() { write(x + P.f(y)); } var y = 1; } module B { var x = 2; proc f(a: int): int { return a; } }`)
	p, at, e := module.Link(l)
	want := "module Program {\n  var x_1 = 2;\n  var y_0 = 1;\n  proc f_1(a: int): int {\n    return a;\n  }\n  proc main() {\n    write(x_1 + f_1(y_0));\n  }\n}\n"
	if text := textOf(p); text != want || at != 0 || e != api.OK {
		t.Error(text, at, e)
	}
}

// TestScopes has local names ahead of, in and behind the places where they are visible.
func TestScopes(t *testing.T) {
	for src, want := range map[string]string{
		"var x = x; write(x);":                                                                                        "var x = x_0; write(x);",
		"write(x); var x: [x] int; x[1] = x;":                                                                         "write(x_0); var x: [x_0] int; x[1] = x;",
		"{ var x = 1; x = 2; } x = 3;":                                                                                "{ var x = 1; x = 2; } x_0 = 3;",
		"if x { var x = 1; x = 2; } else { x = 3; }":                                                                  "if x_0 { var x = 1; x = 2; } else { x_0 = 3; }",
		"cobegin { { var x = 1; } { x = 2; } }":                                                                       "cobegin { { var x = 1; } { x_0 = 2; } }",
		"for x in x { x = 1; } x = 2;":                                                                                "for x in x_0 { x = 1; } x_0 = 2;",
		"coforall (x, y) in {x, y} { write(x, y); } write(x, y);":                                                     "coforall (x, y) in {x_0, y_0} { write(x, y); } write(x_0, y_0);",
		"forall x in 1..2 with (+ reduce x, max reduce y) { y = x; }":                                                 "forall x in 1..2 with (+ reduce x_0, max reduce y_0) { y_0 = x; }",
		"var y = 1; forall x in 1..2 with (+ reduce y) { y = x; var y = y; }":                                         "var y = 1; forall x in 1..2 with (+ reduce y) { y = x; var y = y; }",
		"var f = f(1); f(f); f = P.f;":                                                                                "var f = f_0(1); f_0(f); f = f_1;",
		"while x { var x = x; while x { x += 1; } } x -= 1;":                                                          "while x_0 { var x = x_0; while x { x += 1; } } x_0 -= 1;",
		"write(\"x\", x, f); yield x; return f(int, x, f); assert(x); x.readFE(y);":                                   "write(\"x\", x_0, f_0); yield x_0; return f_0(int, x_0, f_0); assert(x_0); x_0.readFE(y_0);",
		"var z: x = 1; var w: ?x = z; w = x;":                                                                         "var z: x = 1; var w: ?x = z; w = x_0;",
		"begin { var x = 1; } sync { x = 1; } on x { x = 2; var x = 1; }":                                             "begin { var x = 1; } sync { x_0 = 1; } on x_0 { x_0 = 2; var x = 1; }",
		"write(+ reduce x, if x then y else x, -x, x..y by x # y, {x} dmapped blockcyclic(x), here, x[y, 1].domain);": "write(+ reduce x_0, if x_0 then y_0 else x_0, -x_0, x_0..y_0 by x_0 # y_0, {x_0} dmapped blockcyclic(x_0), here, x_0[y_0, 1].domain);",
	} {
		l := read(t, "module M { import N as P; var x = 1; var y = 2; proc f() {} proc main() {"+src+"} } module N { proc f() {} }")
		p, at, e := module.Link(l)
		if e != api.OK {
			t.Errorf("%s: %d %d", src, at, e)
			continue
		}
		if wanted := read(t, "module M { proc main() {"+want+"} }")[0].Procs[0].Body; !slices.EqualFunc(p.Procs[2].Body, wanted, syntax.Same) {
			t.Errorf("%s\n%s", src, textOf(p))
		}
	}
}

func TestScopesOfArguments(t *testing.T) {
	l := read(t, `module M { var x = 1; var y: [x] int = x; var t = 1; proc main() {}
		proc f(x: [x] int, y: [x] int, type t, z: ?u, w: u, v: [u] int): [x] int where x > y + t + u { x = y; t = u; }
		iter g(y: ?x, z: [x] int): [t] int where t { yield x; }
		proc h(): ?t where t { var a: ?y = y; t = y; } }`)
	want := read(t, `module Program { var x_0 = 1; var y_0: [x_0] int = x_0; var t_0 = 1; proc main() {}
		proc f_0(x: [x_0] int, y: [x] int, type t, z: ?u, w: u, v: [u] int): [x] int where x > y + t + u { x = y; t = u; }
		iter g_0(y: ?x, z: [x] int): [t_0] int where t_0 { yield x; }
		proc h_0(): ?t where t_0 { var a: ?y = y_0; t_0 = y_0; } }`)
	p, at, e := module.Link(l)
	if e != api.OK || !syntax.Equal(modulesOf(p), want) {
		t.Error(textOf(p), at, e)
	}
}

// TestNotPrivate links private globals and procedures: nothing in a program is private.
func TestNotPrivate(t *testing.T) {
	l := read(t, "module M { private var x = 1; private proc f() { x = 1; } private iter f() { f(); } private proc main() { f(); } }")
	want := read(t, "module Program { var x_0 = 1; proc f_0() { x_0 = 1; } iter f_0() { f_0(); } proc main() { f_0(); } }")
	if p, at, e := module.Link(l); e != api.OK || !syntax.Equal(modulesOf(p), want) {
		t.Error(textOf(p), at, e)
	}
}

// TestFaults has texts of modules, the error of Check, and that of Link, with the indices of the modules.
func TestFaults(t *testing.T) {
	const main = "module Z { proc main() {} }"
	for _, c := range []struct {
		text      string
		at        int
		check     api.Errno
		linkAt    int
		linkError api.Errno
	}{
		{main, 0, api.OK, 0, api.OK},
		{"", 0, api.OK, 0, module.ErrMain},
		{"module A {} module B {} module A {} module B {}" + main, 2, module.ErrModule, 2, module.ErrModule},
		{"module A { use B; } module A {}", 1, module.ErrModule, 1, module.ErrModule},
		{"module A {} module B { use C; }" + main, 1, module.ErrModule, 1, module.ErrModule},
		{"module A { import C as P; }" + main, 0, module.ErrModule, 0, module.ErrModule},
		{"module A {} module B { use B; }" + main, 1, module.ErrModule, 1, module.ErrModule},
		{"module A { import A as P; }" + main, 0, module.ErrModule, 0, module.ErrModule},
		{"module A { var x = 1; var x = 2; } module B { use B; }" + main, 1, module.ErrModule, 1, module.ErrModule},
		{"module B { use Z; } module A { var x = 1; private var x = 2; }" + main, 1, module.ErrClash, 1, module.ErrClash},
		{"module A { var x = 1; proc x() {} }" + main, 0, module.ErrClash, 0, module.ErrClash},
		{"module A { proc x() {} iter x() {} private proc x() {} }" + main, 0, api.OK, 0, api.OK},
		{"module A { import Z as P; import Z as P; }" + main, 0, module.ErrClash, 0, module.ErrClash},
		{"module A { import Z as P; import Z as Q; var P = 1; }" + main, 0, api.OK, 0, api.OK},
		{"module A { use Z only x; } module B { var x = 1; var x = 1; }" + main, 1, module.ErrClash, 1, module.ErrClash},
		{"module A { use B; use Z only x; } module B { var x = 1; }" + main, 0, module.ErrUse, 0, module.ErrUse},
		{"module A { use B; use Z except x; } module B { var x = 1; }" + main, 0, module.ErrUse, 0, module.ErrUse},
		{"module A { use B only x; } module B { private var x = 1; }" + main, 0, module.ErrUse, 0, module.ErrUse},
		{"module A { use B except x; } module B { private proc x() {} proc x() {} }" + main, 0, module.ErrUse, 0, module.ErrUse},
		{"module A { use B only x; } module B { proc x() {} private proc x() {} }" + main, 0, api.OK, 0, api.OK},
		{"module A { use B; use C; } module B { var x = 1; } module C { use Z only main, x; proc x() {} }" + main, 2, module.ErrUse, 2, module.ErrUse},
		{"module A { use B; use C; } module B { var x = 1; } module C { proc x() {} }" + main, 0, module.ErrClash, 0, module.ErrClash},
		{"module A { use B; use C; var x = 1; } module B { var x = 1; } module C { proc x() {} }" + main, 0, api.OK, 0, api.OK},
		{"module A { use B; use C except x; } module B { var x = 1; } module C { proc x() {} }" + main, 0, api.OK, 0, api.OK},
		{"module A { use B only y; use C; } module B { var x = 1; var y = 1; } module C { proc x() {} }" + main, 0, api.OK, 0, api.OK},
		{"module A { use B; use B; use B only x; import C as P; } module B { var x = 1; } module C { proc x() {} }" + main, 0, api.OK, 0, api.OK},
		{"module A { use B; use C; } module B { var x = 1; } module C { private proc x() {} }" + main, 0, api.OK, 0, api.OK},
		{"module A { proc f() { y = 1; } } module B { use C; use D; } module C { var x = 1; } module D { var x = 1; }" + main, 1, module.ErrClash, 1, module.ErrClash},
		{"module A { var x = y; }" + main, 0, api.OK, 0, module.ErrUnknown},
		{"module A { var x = y(); }", 0, api.OK, 0, module.ErrUnknown},
		{"module A { var x = P.y; }" + main, 0, api.OK, 0, module.ErrUnknown},
		{"module A { import Z as P; var x = P.y; }" + main, 0, api.OK, 0, module.ErrUnknown},
		{"module A { use Z; import Z as P; var x = Z.main; }" + main, 0, api.OK, 0, module.ErrUnknown},
		{"module A { import Z as P; var x = main; }" + main, 0, api.OK, 0, module.ErrUnknown},
		{"module A { import B as P; var x = P.y; } module B { private var y = 1; var x = z; }" + main, 0, api.OK, 0, module.ErrPrivate},
		{"module A { import B as P; var x = P.y(); } module B { private proc y() {} proc y() {} }" + main, 0, api.OK, 0, module.ErrPrivate},
		{"module A { import B as P; var x = P.y(); } module B { proc y() {} private proc y() {} }" + main, 0, api.OK, 0, api.OK},
		{"module A { use B; var x = y; } module B { private var y = 1; }" + main, 0, api.OK, 0, module.ErrUnknown},
		{"module A { import B as P; var x = P.y; } module B { use Z; var z = 1; }" + main, 0, api.OK, 0, module.ErrUnknown},
		{"module A { import B as P; var x = P.main; } module B { use Z; }" + main, 0, api.OK, 0, module.ErrUnknown},
		{"module A { proc f() { var x_0 = 1; } } module B { var x = y; }" + main, 0, api.OK, 1, module.ErrUnknown},
		{"module A { proc f() { var x_1 = 1; } } module B { var x = y; }" + main, 0, api.OK, 0, module.ErrClash},
		{"module A { proc f(main: int) { } }" + main, 0, api.OK, 0, module.ErrClash},
		{"module A { proc f(main_1: int) { } }" + main, 0, api.OK, 0, api.OK},
		{"module A { proc f(a: ?main) { } }" + main, 0, api.OK, 0, module.ErrClash},
		{"module A { proc f(type main) { } }" + main, 0, api.OK, 0, module.ErrClash},
		{"module A { proc f() { for main in 1..2 { } } }" + main, 0, api.OK, 0, module.ErrClash},
		{"module A { proc f() { forall (i, f_0) in y { } } }" + main, 0, api.OK, 0, module.ErrClash},
		{"module A { proc f() { var f_0 = y; } }" + main, 0, api.OK, 0, module.ErrClash},
		{"module A { proc f() { var x = y; var f_0 = 1; } }" + main, 0, api.OK, 0, module.ErrUnknown},
		{"module A { proc f(f_0: [y] int) { } }" + main, 0, api.OK, 0, module.ErrClash},
		{"module A { proc f(a: [y] int, f_0: int) { } }" + main, 0, api.OK, 0, module.ErrUnknown},
		{"module A { proc f(): [y] int where z { var f_0 = 1; } }" + main, 0, api.OK, 0, module.ErrUnknown},
		{"module A { import B as P; proc f() { y(P.x); } } module B { private var x = 1; }" + main, 0, api.OK, 0, module.ErrUnknown},
		{"module A { import B as P; proc f() { P.x(y); } } module B { private proc x() {} }" + main, 0, api.OK, 0, module.ErrPrivate},
		{"module A { proc f() { x = y; } var z = f_0; } module B { proc f() { var z_0 = 1; } }" + main, 0, api.OK, 0, module.ErrUnknown},
		{"module A { proc main() {} }" + main, 0, api.OK, 0, module.ErrMain},
		{"module A { proc main() {} proc main(a: int) {} }", 0, api.OK, 0, module.ErrMain},
		{"module A { proc main() {} iter main() {} }", 0, api.OK, 0, api.OK},
		{"module A { iter main() {} }", 0, api.OK, 0, module.ErrMain},
		{"module A { var main = 1; }", 0, api.OK, 0, module.ErrMain},
		{"module A { var main = 1; } module B { use A; iter f() { main = 1; } }" + main, 0, api.OK, 0, api.OK},
		{"module A { proc main() { x = 1; } } " + main, 0, api.OK, 0, module.ErrUnknown},
		{"module A { } module B { proc f() { x(); } }", 0, api.OK, 1, module.ErrUnknown},
	} {
		l := read(t, c.text)
		if at, e := module.Check(l); at != c.at || e != c.check {
			t.Errorf("%s: Check %d %d", c.text, at, e)
		}
		p, at, e := module.Link(l)
		if at != c.linkAt || e != c.linkError || e != api.OK && len(p.Globals)+len(p.Procs) > 0 {
			t.Errorf("%s: Link %d %d", c.text, at, e)
		}
		_, e1 := module.Order(l)
		_, _, e2 := module.Visible(l, -1)
		_, e3 := module.Cycles(l)
		_, e4 := module.Name(l, -1, "")
		if c.check != api.OK && (e1 != c.check || e2 != c.check || e3 != c.check || e4 != c.check) || c.check == api.OK && (e1 != api.OK || e2 != api.ErrRange || e3 != api.OK || e4 != api.ErrRange) {
			t.Error(c.text, e1, e2, e3, e4)
		}
	}
}

// TestFormFirst has modules that are not right as trees: they decide, ahead of all else.
func TestFormFirst(t *testing.T) {
	twice := read(t, "module A { use A; } module A {}")
	wide := syntax.Module{Name: "W", Globals: []syntax.Global{{Var: api.Node{Op: api.Var, Name: "x", Num: 2, Kids: []api.Node{{Op: api.Call, Name: "f", Kids: make([]api.Node, api.MaxNodes)}}}}}}
	deep := api.Node{Op: api.Int}
	for range api.MaxDepth {
		deep = api.Node{Op: api.Unary, Name: "!", Kids: []api.Node{deep}}
	}
	endless := make([]api.Node, 2)
	endless[0], endless[1] = api.Node{Op: api.BlockOf, Kids: endless}, api.Node{Op: api.BlockOf, Kids: endless}
	for i, c := range []struct {
		m syntax.Module
		e api.Errno
	}{
		{syntax.Module{}, api.ErrForm}, {wide, api.ErrCount},
		{syntax.Module{Name: "D", Procs: []api.Proc{{Name: "f", Result: api.Node{Op: api.Type, Name: "void"}, Where: []api.Node{deep}}}}, api.ErrDepth},
		{syntax.Module{Name: "E", Procs: []api.Proc{{Name: "f", Result: api.Node{Op: api.Type, Name: "void"}, Body: endless}}}, api.ErrCount},
	} {
		for k := range 3 {
			l := slices.Insert(slices.Clone(twice), k, c.m)
			l = append(l, syntax.Module{Name: "="})
			if at, e := module.Check(l); at != k || e != c.e {
				t.Error(i, k, at, e)
			}
			p, at, e := module.Link(l)
			order, e1 := module.Order(l)
			names, of, e2 := module.Visible(l, 0)
			cycles, e3 := module.Cycles(l)
			name, e4 := module.Name(l, 0, "f")
			if at != k || e != c.e || e1 != e || e2 != e || e3 != e || e4 != e || len(p.Procs)+len(order)+len(names)+len(of)+len(cycles)+len(name) > 0 {
				t.Error(i, k, at, e, e1, e2, e3, e4)
			}
		}
	}
}

// TestLimitOfEachModule has many modules that together have more nodes than one may have.
func TestLimitOfEachModule(t *testing.T) {
	var l []syntax.Module
	for i := range 5 {
		l = append(l, read(t, "module M"+strconv.Itoa(i)+" { var x = f("+strings.Repeat("1, ", 2000)+"1); proc f() {} }")[0])
	}
	l = append(l, read(t, "module Z { proc main() {} }")...)
	if p, at, e := module.Link(l); e != api.OK || at != 0 || len(p.Globals) != 5 {
		t.Error(at, e)
	}
}

func TestLongNames(t *testing.T) {
	name := func(n int) string { return strings.Repeat("n", n) }
	many := ""
	for i := range 9 {
		many += "module M" + strconv.Itoa(i) + " { }"
	}
	main := "module Z { proc main() { z = 1; } }"
	for _, c := range []struct {
		text string
		at   int
		e    api.Errno
	}{
		{"module A { var " + name(38) + " = 1; } module Z { proc main() {} }", 0, api.OK}, {"module B { var x = y; } module A { var " + name(39) + " = 1; }" + main, 1, api.ErrLarge}, {"module A { proc " + name(40) + "() {} }" + main, 0, api.ErrLarge},
		{many + "module A { var " + name(38) + " = 1; }" + main, 9, 0}, {many + "module Y { } module A { var x = 1; private var " + name(38) + " = 1; }" + main, 10, api.ErrLarge}, {many + "module Y { } module A { var " + name(37) + " = y; }", 10, module.ErrUnknown},
		{"module B { var " + name(39) + " = x; } module A { var " + name(40) + " = 1; }" + main, 0, api.ErrLarge},
	} {
		want := c.e
		if want == 0 && strings.Contains(c.text, "z = 1") {
			want, c.at = module.ErrUnknown, 10
		}
		if p, at, e := module.Link(read(t, c.text)); at != c.at || e != want || e != api.OK && len(p.Procs) > 0 {
			t.Errorf("%.50s: %d %d", c.text, at, e)
		}
	}
}

func TestName(t *testing.T) {
	long := strings.Repeat("n", 38)
	l := read(t, "module A { use B; private var x = 1; proc f() {} iter main() {} } module B { var y = 1; iter main() {} proc main() {} } module C { var "+long+" = 1; proc "+long+"n() {} var main = 1; }")
	for _, c := range []struct {
		module int
		name   string
		want   string
		e      api.Errno
	}{
		{0, "x", "x_0", api.OK}, {0, "f", "f_0", api.OK}, {0, "main", "main_0", api.OK}, {0, "y", "", api.ErrMissing}, {1, "y", "y_1", api.OK}, {1, "main", "main", api.OK}, {2, "main", "main_2", api.OK}, {2, long, long + "_2", api.OK}, {2, long + "n", "", api.ErrLarge}, {2, long + "nn", "", api.ErrMissing},
		{3, "x", "", api.ErrRange}, {-1, "x", "", api.ErrRange}, {math.MinInt, "", "", api.ErrRange}, {math.MaxInt, "", "", api.ErrRange}, {0, "", "", api.ErrMissing}, {0, "x_0", "", api.ErrMissing}, {0, "B.y", "", api.ErrMissing},
	} {
		if got, e := module.Name(l, c.module, c.name); got != c.want || e != c.e {
			t.Error(c, got, e)
		}
	}
}

// TestUnique has names that look like linked ones.
func TestUnique(t *testing.T) {
	var l []syntax.Module
	for i := range 12 {
		l = append(l, read(t, "module M"+strconv.Itoa(i)+" { var x = 1; var x_1 = 1; var x_1_1 = 1; proc x_() {} proc x__1() {} var _ = 1; var _1 = 1; proc x_11() {} var x_0 = 1; iter main() {} }")[0])
	}
	seen := map[string]bool{}
	for i, m := range l {
		for _, g := range m.Globals {
			n, e := module.Name(l, i, g.Var.Name)
			if e != api.OK || seen[n] || !strings.HasSuffix(n, "_"+strconv.Itoa(i)) {
				t.Error(n, e)
			}
			seen[n] = true
		}
		for _, f := range m.Procs {
			n, e := module.Name(l, i, f.Name)
			if e != api.OK || seen[n] {
				t.Error(n, e)
			}
			seen[n] = true
		}
	}
}

// TestVisibleRandom compares with the names that are found by asking for each one.
func TestVisibleRandom(t *testing.T) {
	r := rand.New(rand.NewSource(3))
	for range 500 {
		w := newWorld(r, true)
		for i := range w.modules {
			var names []string
			var of []int
			for _, n := range slices.Sorted(slices.Values(pool)) {
				if has, _ := w.state(i, n); has {
					names, of = append(names, n), append(of, i)
				} else if l := w.from(i, n); len(l) > 0 {
					names, of = append(names, n), append(of, l[0])
				}
			}
			got, gotOf, e := module.Visible(w.modules, i)
			if e != api.OK || !slices.Equal(got, names) || !slices.Equal(gotOf, of) {
				t.Fatal(got, gotOf, e, names, of)
			}
		}
		for _, i := range []int{-1, len(w.modules), math.MinInt, math.MaxInt} {
			if names, of, e := module.Visible(w.modules, i); len(names)+len(of) > 0 || e != api.ErrRange {
				t.Error(names, of, e)
			}
		}
	}
}

// net makes modules without names that use each other as the bits of a number say.
func net(n, bits int) []syntax.Module {
	var l []syntax.Module
	for i := range n {
		m := syntax.Module{Name: "M" + strconv.Itoa(i)}
		for j := range n {
			if i == j {
				continue
			}
			if bits&1 == 1 {
				m.Uses = append(m.Uses, syntax.Use{Kind: syntax.Import * (j & 1), Module: "M" + strconv.Itoa(j), As: []string{"", "P" + strconv.Itoa(j)}[j&1]})
			}
			bits >>= 1
		}
		l = append(l, m)
	}
	return l
}

// reaches says which modules each one uses, also through others.
func reaches(l []syntax.Module) [][]bool {
	all := make([][]bool, len(l))
	for i, m := range l {
		all[i] = make([]bool, len(l))
		for _, u := range m.Uses {
			j, _ := strconv.Atoi(u.Module[1:])
			all[i][j] = true
		}
	}
	for k := range l {
		for i := range l {
			for j := range l {
				all[i][j] = all[i][j] || all[i][k] && all[k][j]
			}
		}
	}
	return all
}

// TestOrderAndCycles visits all ways in which up to four modules can use each other.
func TestOrderAndCycles(t *testing.T) {
	for n := range 5 {
		for bits := range 1 << (n * max(n-1, 0)) {
			l := net(n, bits)
			if bits%2 == 1 {
				for i := range l {
					slices.Reverse(l[i].Uses)
				}
			}
			checkNet(t, l)
		}
	}
	r := rand.New(rand.NewSource(4))
	for range 300 {
		l := net(7, int(r.Int63()&r.Int63()&r.Int63()))
		checkNet(t, l)
	}
}

func checkNet(t *testing.T, l []syntax.Module) {
	t.Helper()
	all := reaches(l)
	order, e := module.Order(l)
	if e != api.OK || !slices.Equal(order, plainOrder(l)) {
		t.Fatal(l, order, e)
	}
	if sorted := slices.Sorted(slices.Values(order)); len(sorted) != len(l) || len(slices.Compact(sorted)) != len(l) {
		t.Fatal("a module stands not once", order)
	}
	var cycles []int
	for i := range l {
		if all[i][i] {
			cycles = append(cycles, i)
		}
		for j := range l {
			if all[i][j] && !all[i][i] && slices.Index(order, i) < slices.Index(order, j) {
				t.Fatal("ahead of what it uses", l, order)
			}
		}
	}
	if got, e := module.Cycles(l); e != api.OK || !slices.Equal(got, cycles) {
		t.Fatal(l, got, e, cycles)
	}
}

func TestLongChain(t *testing.T) {
	const n = 3000
	var l []syntax.Module
	for i := range n {
		l = append(l, syntax.Module{Name: "M" + strconv.Itoa(i), Uses: []syntax.Use{{Module: "M" + strconv.Itoa((i+1)%n)}}})
	}
	order, e := module.Order(l)
	if e != api.OK || len(order) != n || order[0] != n-1 || order[n-1] != 0 {
		t.Error(len(order), e)
	}
	if cycles, e := module.Cycles(l); e != api.OK || len(cycles) != n {
		t.Error(len(cycles), e)
	}
	l[n-1].Uses = nil
	if cycles, e := module.Cycles(l); e != api.OK || len(cycles) != 0 {
		t.Error(len(cycles), e)
	}
}

// TestAlone links single modules, and renames all back.
func TestAlone(t *testing.T) {
	r := rand.New(rand.NewSource(5))
	count := 0
	for count < 500 {
		w := newWorld(r, true)
		if len(w.modules) > 1 {
			continue
		}
		count++
		p, _, e := module.Link(w.modules)
		if e != api.OK {
			t.Fatal(e)
		}
		names := map[string]string{}
		for _, x := range w.things[0] {
			names[w.linked(0, x.name)] = x.name
		}
		back := modulesOf(p)
		back[0].Name = w.modules[0].Name
		for i, g := range back[0].Globals {
			back[0].Globals[i] = syntax.Global{Private: w.modules[0].Globals[i].Private, Var: renamed(g.Var, names)}
		}
		for i := range back[0].Procs {
			f := &back[0].Procs[i]
			f.Private, f.Name = w.modules[0].Procs[i].Private, names[f.Name]
			for j := range f.Formals {
				f.Formals[j].Type = renamed(f.Formals[j].Type, names)
			}
			f.Result = renamed(f.Result, names)
			for _, trees := range [][]api.Node{f.Where, f.Body} {
				for j := range trees {
					trees[j] = renamed(trees[j], names)
				}
			}
		}
		if !syntax.Equal(back, w.modules) {
			text, _ := syntax.Write(back)
			want, _ := syntax.Write(w.modules)
			t.Fatalf("%s\n%s", text, want)
		}
	}
}

// renamed gives back their names to what a tree names.
func renamed(n api.Node, names map[string]string) api.Node {
	if name, ok := names[n.Name]; ok && (n.Op == api.Name || n.Op == api.Call || n.Op == api.Var) {
		n.Name = name
	}
	for i := range n.Kids {
		n.Kids[i] = renamed(n.Kids[i], names)
	}
	return n
}

// TestRenaming gives the modules other names: the program is the same. A use that lists all names is one without a list.
func TestRenaming(t *testing.T) {
	r := rand.New(rand.NewSource(6))
	for range 1000 {
		w := newWorld(r, true)
		p, _, e := module.Link(w.modules)
		if e != api.OK {
			t.Fatal(e)
		}
		other := slices.Clone(w.modules)
		for i := range other {
			other[i].Name = "N" + strconv.Itoa(9-i)
			other[i].Uses = slices.Clone(other[i].Uses)
			for j := range other[i].Uses {
				u := &other[i].Uses[j]
				of, _ := strconv.Atoi(u.Module[1:])
				u.Module = "N" + strconv.Itoa(9-of)
				if u.Kind == syntax.All && len(w.public(of)) > 0 {
					u.Kind, u.Names = syntax.Only, w.public(of)
				} else if u.Kind == syntax.Only && len(u.Names) == len(w.public(of)) {
					u.Kind, u.Names = syntax.All, nil
				}
			}
		}
		if q, _, e := module.Link(other); e != api.OK || !syntax.Equal(modulesOf(p), modulesOf(q)) {
			t.Fatal(e, textOf(p), textOf(q))
		}
	}
}

// TestArgumentsStay links modules, and looks whether they are as before, also behind the ends of their lists.
func TestArgumentsStay(t *testing.T) {
	r := rand.New(rand.NewSource(7))
	for range 200 {
		w := newWorld(r, true)
		behind := api.Node{Op: 99, Name: "behind"}
		for i := range w.modules {
			for j := range w.modules[i].Procs {
				f := &w.modules[i].Procs[j]
				f.Body = append(f.Body, behind)[:len(f.Body)]
			}
		}
		before, _ := syntax.Write(w.modules)
		p, _, _ := module.Link(w.modules)
		first := textOf(p)
		module.Check(w.modules)
		module.Order(w.modules)
		module.Cycles(w.modules)
		module.Visible(w.modules, 0)
		module.Name(w.modules, 0, "x")
		if after, _ := syntax.Write(w.modules); after != before || textOf(p) != first {
			t.Fatal("changed")
		}
		for _, m := range w.modules {
			for _, f := range m.Procs {
				if !reflect.DeepEqual(f.Body[:len(f.Body)+1][len(f.Body)], behind) {
					t.Fatal("changed behind the end")
				}
			}
		}
	}
}
