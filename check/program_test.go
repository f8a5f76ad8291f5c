package check_test

import (
	"slices"
	"testing"

	"raddle/api"
	"raddle/check"
)

const helpers = " proc v() { } proc f(a: int): int { return a; } iter two(n: int): int { yield n; } iter flags(): bool { yield true; } proc r(): range { return 1..2; }"

// path is short for a list of indices.
type path = []int

// TestRules asks for the first fault in the body of main; that of main has the index 0.
func TestRules(t *testing.T) {
	for _, c := range []struct {
		body string
		path path
		e    api.Errno
	}{
		// Var
		{"var x = 1; var b: bool; var i: int; const r = 1..2; var d: domain(1) = {r}; var a: [d] int; var c: sync; var q: atomic; x = a[1] + i;", nil, api.OK},
		{"param x = y;", path{0}, check.ErrStatic},
		{"var a: [1..2] int;", path{0}, api.ErrType},
		{"var a: [y] int;", path{0}, api.ErrMissing},
		{"var a: [{1..2}] int = y;", path{0}, api.ErrMissing},
		{"var a: [{1..2}] int = 1;", path{0}, api.ErrType},
		{"var x: t = y;", path{0}, check.ErrStatic},
		{"var x: ?t = y;", path{0}, check.ErrStatic},
		{"var x: array(1) = y;", path{0}, api.ErrType},
		{"var x: array(2);", path{0}, api.ErrType},
		{"var x: int = true;", path{0}, api.ErrType},
		{"var x: int = y;", path{0}, api.ErrMissing},
		{"var x: range;", path{0}, api.ErrType},
		{"var x: domain(1);", path{0}, api.ErrType},
		{"var x: domain(2) = {1..2};", path{0}, api.ErrType},
		{"var x: sync = 1;", path{0}, api.ErrType},
		{"var c: sync; var x: sync = c;", path{1}, api.ErrType},
		{"var c: sync; var x = c;", path{1}, api.ErrType},
		{"var q: atomic; var x = q;", path{1}, api.ErrType},
		{"var a: [{1..2}] int; var x = a;", path{1}, api.ErrType},
		{"var x = v();", path{0}, api.ErrType},
		{"var x = x;", path{0}, api.ErrMissing},
		{"var x = 1; var x = 2;", path{1}, api.ErrDuplicate},
		{"var x = 1; var x = y;", path{1}, api.ErrMissing},
		{"var x = 1; { var x = x == 1; x = false; } x = 2;", nil, api.OK},
		// Assign
		{"y = z;", path{0}, api.ErrMissing},
		{"const x = 1; x = y;", path{1}, check.ErrConst},
		{"g = 2; g += 1; g -= 1; g *= 2; h[1] = 3; h[1] += 3;", nil, api.OK},
		{"k = 2;", path{0}, check.ErrConst},
		{"h = y;", path{0}, api.ErrType},
		{"var c: sync; c = y;", path{1}, api.ErrType},
		{"var q: atomic; q = q;", path{1}, api.ErrType},
		{"var a: [{1..2}] int; a = a;", path{1}, api.ErrType},
		{"h[true] = y;", path{0}, api.ErrType},
		{"h[y] = z;", path{0}, api.ErrMissing},
		{"h[1] = true;", path{0}, api.ErrType},
		{"g = true;", path{0}, api.ErrType},
		{"g = v();", path{0}, api.ErrType},
		{"var b = true; b = false; b += true;", path{2}, api.ErrType},
		{"var b = 1..2; b = 1..3; b += 1..2;", path{2}, api.ErrType},
		{"g += 1 + true;", path{0}, api.ErrType},
		// If, While, Assert
		{"if 1 { y = 1; }", path{0}, api.ErrType},
		{"if z { y = 1; }", path{0}, api.ErrMissing},
		{"if true { g = 1; y = 1; }", path{0, 0, 1}, api.ErrMissing},
		{"if true { g = 1; } else { g = 2; g = true; }", path{0, 1, 1}, api.ErrType},
		{"while g { }", path{0}, api.ErrType},
		{"while g > 1 { { g = true; } }", path{0, 0, 0, 0}, api.ErrType},
		{"if true { var x = 1; } x = 1;", path{1}, api.ErrMissing},
		{"assert(g);", path{0}, api.ErrType},
		{"assert(g == 1 && true);", nil, api.OK},
		{"g = 1; { g = 1; { g = 1; g = true; } }", path{1, 1, 1}, api.ErrType},
		// For
		{"for i in 1..2 { g = i; } for i in {1..2} { g = i; } for (i, j) in {1..2, 1..2} { g = i + j; } for i in h { g = i; } for i in two(1) { g = i; } for b in flags() { assert(b); }", nil, api.OK},
		{"var a: [{1..2, 1..2}] int; for i in a { g = i; } for (i, j) in a { }", path{2}, api.ErrType},
		{"for i in 1 { y = 1; }", path{0}, api.ErrType},
		{"for i in y { }", path{0}, api.ErrMissing},
		{"for i in {1..2, 1..2} { }", path{0}, api.ErrType},
		{"for (i, i) in 1..2 { }", path{0}, api.ErrType},
		{"for (i, i) in {1..2, 1..2} { y = 1; }", path{0}, api.ErrDuplicate},
		{"for (i, j) in two(1) { }", path{0}, api.ErrType},
		{"for i in two(y) { }", path{0}, api.ErrMissing},
		{"for i in two() { }", path{0}, api.ErrCount},
		{"for i in two(true) { }", path{0}, api.ErrType},
		{"for i in f(1) { }", path{0}, api.ErrType},
		{"for i in r() { }", nil, api.OK},
		{"for i in nobody() { }", path{0}, api.ErrMissing},
		{"for i in 1..2 { i = 1; }", path{0, 0, 0}, check.ErrConst},
		{"for b in flags() { b = true; }", path{0, 0, 0}, check.ErrConst},
		{"for i in 1..2 { var i = true; i = false; }", nil, api.OK},
		{"for i in i..2 { }", path{0}, api.ErrMissing},
		{"var x = 1; for i in 1..2 { x = i; return; }", nil, api.OK},
		// Coforall, Forall
		{"coforall i in two(1) { }", path{0}, check.ErrPlace},
		{"coforall i in h { g = i; }", nil, api.OK},
		{"coforall i in true { }", path{0}, api.ErrType},
		{"forall i in two(1) { }", path{0}, check.ErrPlace},
		{"forall i in h { }", path{0}, api.ErrType},
		{"forall (i, j) in {1..2, 1..2} { g = i + j; }", nil, api.OK},
		{"forall (i, i) in {1..2, 1..2} with (+ reduce y) { }", path{0}, api.ErrDuplicate},
		{"forall i in 1..9 with (+ reduce s) { }", path{0}, api.ErrMissing},
		{"forall i in 1..9 with (+ reduce g) { }", path{0}, api.ErrMissing},
		{"const s = true; forall i in 1..9 with (+ reduce s) { y = 1; }", path{1}, check.ErrConst},
		{"var s = true; forall i in 1..9 with (max reduce s) { }", path{1}, api.ErrType},
		{"var s = 1; forall i in 1..9 with (&& reduce s) { }", path{1}, api.ErrType},
		{"var s = true; forall i in 1..9 with (|| reduce s, && reduce s) { }", path{1}, api.ErrDuplicate},
		{"var s = 1; forall i in 1..9 with (+ reduce s, && reduce s) { }", path{1}, api.ErrType},
		{"var i = 1; forall i in 1..9 with (+ reduce i) { }", path{1}, api.ErrDuplicate},
		{"var s = 1; var b = true; forall i in 1..9 with (+ reduce s, && reduce b) { s += i; b = false; }", nil, api.OK},
		{"var s = 1; var x = 1; forall i in 1..9 with (+ reduce s) { s = 1; x = 1; }", path{2, 0, 1}, check.ErrConst},
		{"var s = 1; forall i in 1..9 with (+ reduce s) { var s = 1; s = 2; begin { s = 1; } }", path{1, 0, 2, 0, 0}, check.ErrConst},
		{"var s = 1; forall i in 1..9 with (+ reduce s) { forall j in 1..9 with (+ reduce s) { s += 1; } }", nil, api.OK},
		{"var s = 1; coforall i in 1..9 { forall j in 1..9 with (+ reduce s) { s += 1; } }", path{1, 0, 0}, check.ErrConst},
		{"var s = 1; forall i in 1..9 with (+ reduce s) { coforall j in 1..2 { s += 1; } }", path{1, 0, 0, 0, 0}, check.ErrConst},
		{"coforall i in 1..2 { i = 1; }", path{0, 0, 0}, check.ErrConst},
		// tasks
		{"var x = 1; begin { x = 1; }", path{1, 0, 0}, check.ErrConst},
		{"begin { g = 1; var x = 1; x = 2; }", nil, api.OK},
		{"begin { k = 1; }", path{0, 0, 0}, check.ErrConst},
		{"cobegin { { g = 1; } { g = 2; g = true; } }", path{0, 1, 1}, api.ErrType},
		{"var x = 1; cobegin { { g = x; } { x = 2; } }", path{1, 1, 0}, check.ErrConst},
		{"var x = 1; sync { x = 2; begin { x = 3; } }", path{1, 0, 1, 0, 0}, check.ErrConst},
		{"var x = 1; on 1 { x = 2; }", nil, api.OK},
		{"on true { y = 1; }", path{0}, api.ErrType},
		{"on y { }", path{0}, api.ErrMissing},
		{"var a: [{1..2}] int; begin { a[1] = 2; }", nil, api.OK},
		{"var c: sync; begin { c.writeEF(1); }", nil, api.OK},
		// Return, Yield
		{"begin { return; }", path{0, 0, 0}, check.ErrPlace},
		{"sync { if true { return y; } }", path{0, 0, 0, 0, 0}, check.ErrPlace},
		{"on 0 { { return; } }", path{0, 0, 0, 0}, check.ErrPlace},
		{"cobegin { { return; } }", path{0, 0, 0}, check.ErrPlace},
		{"forall i in 1..2 { return; }", path{0, 0, 0}, check.ErrPlace},
		{"coforall i in 1..2 { return; }", path{0, 0, 0}, check.ErrPlace},
		{"for i in 1..2 { while true { return; } }", nil, api.OK},
		{"return 1;", path{0}, api.ErrType},
		{"return y;", path{0}, api.ErrMissing},
		{"return v();", path{0}, api.ErrType},
		{"yield y;", path{0}, check.ErrPlace},
		// Do, Write
		{"v(); f(1);", nil, api.OK},
		{"two(1);", path{0}, check.ErrPlace},
		{"f();", path{0}, api.ErrCount},
		{"var c: sync; c.readFE(); c.writeEF(1); c.reset();", nil, api.OK},
		{"g.readFE();", path{0}, api.ErrType},
		{`write(1, true, "s", g); write();`, nil, api.OK},
		{"write(1..2);", path{0}, api.ErrType},
		{"write(v());", path{0}, api.ErrType},
		{"write(1, y, 1..2);", path{0}, api.ErrMissing},
		{"write({1..2}, y);", path{0}, api.ErrType},
	} {
		p := program(t, "proc main() { "+c.body+" } var g = 1; const k = 2; var h: [{1..3}] int;"+helpers)
		want := check.Fault{Path: c.path}
		at, e := check.Program(p)
		if at.Proc != 0 || !slices.Equal(at.Path, want.Path) || e != c.e {
			t.Errorf("%s: %v %v, want %v %v", c.body, at, e, want, c.e)
		}
		if check.Core(p) {
			t.Errorf("%s: core with iterators", c.body)
		}
	}
}

// TestProcedures asks for faults of globals, of heads of procedures, and of main.
func TestProcedures(t *testing.T) {
	for _, c := range []struct {
		text string
		proc int
		path path
		e    api.Errno
	}{
		{"proc main() { }", 0, nil, api.OK},
		{"", -1, nil, check.ErrMain},
		{"proc f() { }", -1, nil, check.ErrMain},
		{"proc main(x: int) { }", -1, nil, check.ErrMain},
		{"proc main(): int { return 1; }", -1, nil, check.ErrMain},
		{"iter main(): int { yield 1; }", -1, nil, check.ErrMain},
		{"proc main() { x = 1; }", 0, path{0}, api.ErrMissing},
		// globals
		{"var x = 1; var y = x; var z = f(y); proc f(a: int): int { return z; } proc main() { }", 0, nil, api.OK},
		{"var x = y; var y = 1;", -1, path{0}, api.ErrMissing},
		{"var x = x;", -1, path{0}, api.ErrMissing},
		{"var x = 1; var x = 2;", -1, path{1}, api.ErrDuplicate},
		{"var x = 1; var x = true + 1;", -1, path{1}, api.ErrType},
		{"var x = 1; param y = 2; var x = 3;", -1, path{1}, check.ErrStatic},
		{"var x: t;", -1, path{0}, check.ErrStatic},
		{"var d: domain(1);", -1, path{0}, api.ErrType},
		{"var x = two(1); iter two(n: int): int { } proc main() { y = 1; }", -1, path{0}, check.ErrPlace},
		{"var x = 1; proc x() { } proc main() { x(); x = 2; }", 0, nil, api.OK},
		{"proc main() { y = 1; } var x = y;", -1, path{0}, api.ErrMissing},
		// heads
		{"proc main() { } proc f() { } proc f(x: ?t) { }", 2, nil, api.ErrDuplicate},
		{"proc f(param n: int): sync { }", 0, nil, check.ErrStatic},
		{"proc f(type t) { }", 0, nil, check.ErrStatic},
		{"proc f(x: ?t, x: int) { }", 0, nil, check.ErrStatic},
		{"proc f(x: t) { }", 0, nil, check.ErrStatic},
		{"proc f(): t { }", 0, nil, check.ErrStatic},
		{"proc f() where y { }", 0, nil, check.ErrStatic},
		{"proc f(x: int, x: int): sync { }", 0, nil, api.ErrForm},
		{"proc f(): atomic { }", 0, nil, api.ErrForm},
		{"proc f(): array(1) { }", 0, nil, api.ErrForm},
		{"proc f(): array(2) { }", 0, nil, api.ErrForm},
		{"iter f() { }", 0, nil, api.ErrForm},
		{"iter f(): range { }", 0, nil, api.ErrForm},
		{"iter f(): bool { } proc g(): range { } proc h(): domain(2) { } proc main() { }", 0, nil, api.OK},
		{"proc f(x: int, x: bool) { y = 1; }", 0, nil, api.ErrDuplicate},
		{"proc f(x: int) { var x = true; x = false; } proc main() { }", 0, nil, api.OK},
		{"proc f(x: int) { x = 1; }", 0, path{0}, check.ErrConst},
		{"proc f(const x: int) { x = 1; }", 0, path{0}, check.ErrConst},
		{"proc f(in x: int) { x = 1; begin { x = 2; } }", 0, path{1, 0, 0}, check.ErrConst},
		{"proc f(in x: array(1), y: sync, z: atomic) { x[1] = 2; y.reset(); z.add(1); } proc main() { }", 0, nil, api.OK},
		{"proc f(in x: array(1)) { x = x; }", 0, path{0}, api.ErrType},
		// Return and Yield
		{"proc f(): int { return; }", 0, path{0}, api.ErrType},
		{"proc f(): int { return true; }", 0, path{0}, api.ErrType},
		{"proc f(): int { return y; }", 0, path{0}, api.ErrMissing},
		{"proc f(): int { yield y; }", 0, path{0}, check.ErrPlace},
		{"proc f(): int { } proc main() { }", 0, nil, api.OK},
		{"iter f(): int { return; }", 0, path{0}, check.ErrPlace},
		{"iter f(): int { yield true; }", 0, path{0}, api.ErrType},
		{"iter f(): int { yield y; }", 0, path{0}, api.ErrMissing},
		{"iter f(): int { begin { yield y; } }", 0, path{0, 0, 0}, check.ErrPlace},
		{"iter f(): int { sync { yield 1; } }", 0, path{0, 0, 0}, check.ErrPlace},
		{"iter f(): int { on 1 { yield 1; } }", 0, path{0, 0, 0}, check.ErrPlace},
		{"iter f(): int { forall i in 1..2 { yield 1; } }", 0, path{0, 0, 0}, check.ErrPlace},
		{"iter f(): int { for i in f() { if i > 1 { yield i; } } } proc main() { }", 0, nil, api.OK},
		// the order of procedures
		{"proc main() { f(true); } proc f(x: int, x: int) { }", 0, path{0}, api.ErrCount},
		{"proc f() { return 1; } proc main() { y = 1; }", 0, path{0}, api.ErrType},
	} {
		at, e := check.Program(program(t, c.text))
		if at.Proc != c.proc || !slices.Equal(at.Path, c.path) || e != c.e {
			t.Errorf("%s: %v %v, want %d %v %v", c.text, at, e, c.proc, c.path, c.e)
		}
	}
}

// TestProgramForm asks that the error of the form comes first, without a place.
func TestProgramForm(t *testing.T) {
	p := program(t, "proc main() { x = 1; }")
	p.Procs[0].Body = append(p.Procs[0].Body, api.Node{Op: 99})
	if at, e := check.Program(p); at.Proc != 0 || at.Path != nil || e != api.ErrForm {
		t.Errorf("Program = %v, %v", at, e)
	}
	p.Procs[0].Body = []api.Node{chain(61, api.Node{Op: api.Int})}
	if at, e := check.Program(p); at.Proc != 0 || at.Path != nil || e != api.ErrDepth {
		t.Errorf("Program = %v, %v", at, e)
	}
	if check.Core(p) {
		t.Error("a program of no right form is core")
	}
}

func TestCore(t *testing.T) {
	for text, want := range map[string]bool{
		"proc main() { write(1); }":                           true,
		"proc main() { write(x); }":                           false,
		"proc main() { } iter two(): int { yield 1; }":        false,
		"proc f() { }":                                        false,
		"proc main() { f(1); } proc f(param n: int) { }":      false,
		"proc main() { f(1); } proc f(n: int) { } var x = 1;": true,
	} {
		if got := check.Core(program(t, text)); got != want {
			t.Errorf("Core(%s) = %v", text, got)
		}
	}
}

// TestPrograms asks P13.3 and P13.4 of random programs.
func TestPrograms(t *testing.T) {
	r := newTrees(16)
	right := 0
	for range 6000 {
		p := r.program(2)
		at, e := check.Program(p)
		if e == api.OK {
			right++
		}
		more := api.Program{Globals: append(slices.Clone(p.Globals), api.Node{Op: api.Var, Name: "unused", Num: api.HasInit, Kids: []api.Node{{Op: api.Int}}}), Procs: append(slices.Clone(p.Procs), api.Proc{Name: "unused", Formals: []api.Formal{{Name: "i", Type: kind("int")}}, Result: kind("void")})}
		if at2, e2 := check.Program(more); at2.Proc != at.Proc || !slices.Equal(at2.Path, at.Path) || e2 != e {
			t.Fatalf("with more: %v %v, want %v %v", at2, e2, at, e)
		}
		exchanged := api.Program{Globals: p.Globals, Procs: slices.Clone(p.Procs)}
		i, j := r.Intn(len(p.Procs)), r.Intn(len(p.Procs))
		exchanged.Procs[i], exchanged.Procs[j] = exchanged.Procs[j], exchanged.Procs[i]
		if _, e2 := check.Program(exchanged); (e2 == api.OK) != (e == api.OK) {
			t.Fatalf("exchanged: %v, want %v", e2, e)
		}
		within := api.Program{Globals: p.Globals, Procs: slices.Clone(p.Procs)}
		last := len(p.Procs) - 1
		within.Procs[last].Body = []api.Node{{Op: api.BlockOf, Kids: p.Procs[last].Body}}
		at2, e2 := check.Program(within)
		if e2 != e || e != api.OK && at.Proc == last && at.Path != nil && !slices.Equal(at2.Path, append([]int{0}, at.Path...)) {
			t.Fatalf("in a block: %v %v, want %v %v", at2, e2, at, e)
		}
	}
	if right < 500 {
		t.Errorf("only %d of the programs are right", right)
	}
}
