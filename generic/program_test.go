package generic_test

import (
	"slices"
	"strconv"
	"strings"
	"testing"

	"raddle/api"
	"raddle/check"
	"raddle/generic"
	"raddle/param"
	"raddle/syntax"
)

// TestProgram asks for programs without generics, by their texts.
func TestProgram(t *testing.T) {
	for _, c := range [][2]string{
		{"proc main() { }", "proc main() { }"},
		{
			"proc twice(x: ?t): ?t { return x; } proc twice(x: int): int { return 2 * x; } proc main() { write(twice(3), twice(true), twice(4)); }",
			"proc main() { write(twice__1(3), twice__0_bool(true), twice__1(4)); } proc twice__1(x: int): int { return 2 * x; } proc twice__0_bool(x: bool): bool { return x; }",
		},
		{
			"proc main() { f(3, int, true); } proc f(param n: int, type t, x: ?u): t { var y: t = n; var z: u = x; if n > 2 { return y; } else { return 0; } }",
			"proc main() { f__1_3_int_bool(true); } proc f__1_3_int_bool(x: bool): int { var y: int = 3; var z: bool = x; { return y; } }",
		},
		{ // globals first, then bodies; unused ones are left out
			"proc g() { h(); } proc unused() { x(); } proc h() { } var a = f(1); var b: [{1..f(2)}] int; proc main() { g(); f(a); } proc f(x: int): int { return x; }",
			"var a = f(1); var b: [{1..f(2)}] int; proc main() { g(); f(a); } proc f(x: int): int { return x; } proc g() { h(); } proc h() { }",
		},
		{ // the types of globals are those of their resolved values
			"var a = f(true); var b = f(a); proc main() { write(f(b)); } proc f(x: bool): int { return 1; } proc f(x: int): bool { return true; }",
			"var a = f__1(true); var b = f__2(a); proc main() { write(f__1(b)); } proc f__1(x: bool): int { return 1; } proc f__2(x: int): bool { return true; }",
		},
		{ // inner calls first
			"proc main() { f(g(1), h(2)); } proc f(x: int, y: int) { } proc h(x: int): int { return x; } proc g(x: int): int { return x; }",
			"proc main() { f(g(1), h(2)); } proc g(x: int): int { return x; } proc h(x: int): int { return x; } proc f(x: int, y: int) { }",
		},
		{ // names of type variables as arguments, unless a local has the name
			"proc main() { f(1); f(true, 2); } proc f(x: ?t) { g(t); { g(t); var t = 1; h(t); } for t in 1..2 { h(t); } g(t); } proc f(x: ?t, t: int) { h(t); } proc g(type t) { } proc h(x: int) { }",
			"proc main() { f__1_int(1); f__2_bool(true, 2); } proc f__1_int(x: int) { g__3_int(); { g__3_int(); var t = 1; h(t); } for t in 1..2 { h(t); } g__3_int(); } proc f__2_bool(x: bool, t: int) { h(t); } proc g__3_int() { } proc h(x: int) { }",
		},
		{ // a variable without a type stays
			"proc main() { f(1); } proc f(x: int) { var a: ?u; var b: u; }",
			"proc main() { f(1); } proc f(x: int) { var a: ?u; var b: u; }",
		},
		{ // known arguments of calls that are not called again
			"proc main() { f(false && g(1)); } proc f(param b: bool) { } proc g(x: int): bool { return true; }",
			"proc main() { f__1_false(); } proc g(x: int): bool { return true; } proc f__1_false() { }",
		},
		{ // params of globals and of blocks, and where
			"param k = 2; proc main() { param m = k + 1; f(m); f(k); } proc f(param n: int) where n > k { write(n); } proc f(param n: int) { write(n, k); }",
			"proc main() { f__1_3(); f__2_2(); } proc f__1_3() { write(3); } proc f__2_2() { write(2, 2); }",
		},
		{ // iterators, loops and their names
			"proc main() { for i in it(true) { f(i); } for i in it(1) { f(i); } for i in 1..2 { f(i); } coforall i in {1..2} { f(i); } forall (i, j) in {1..2, 1..2} { f(i == j); } } iter it(x: bool): bool { yield x; } iter it(x: int): int { yield x; } proc f(x: ?t) { }",
			"proc main() { for i in it__1(true) { f__3_bool(i); } for i in it__2(1) { f__3_int(i); } for i in 1..2 { f__3_int(i); } coforall i in {1..2} { f__3_int(i); } forall (i, j) in {1..2, 1..2} { f__3_bool(i == j); } } iter it__1(x: bool): bool { yield x; } proc f__3_bool(x: bool) { } iter it__2(x: int): int { yield x; } proc f__3_int(x: int) { }",
		},
		{ // the types of locals
			"proc main() { var a: [{1..2}] int; var b: [{1..2, 1..2}] int; var c: sync; var d: atomic; var e = {1..2}; const r = 1..2; var v: bool = 1; f(a); f(b); f(c); f(d); f(e); f(r); f(v); { var a = 1; f(a); } f(a[1]); } proc f(x: ?t) { }",
			"proc main() { var a: [{1..2}] int; var b: [{1..2, 1..2}] int; var c: sync; var d: atomic; var e = {1..2}; const r = 1..2; var v: bool = 1; f__1_array1(a); f__1_array2(b); f__1_sync(c); f__1_atomic(d); f__1_domain1(e); f__1_range(r); f__1_bool(v); { var a = 1; f__1_int(a); } f__1_int(a[1]); } " + strings.Join(each("proc f__1_KIND(x: KIND) { }", "array1 array2 sync atomic domain1 range bool int"), " "),
		},
		{ // instances that need themselves
			"proc main() { write(f(3, true)); } proc f(x: int, y: ?t): int { if x == 0 { return 0; } return f(x - 1, y) + g(x); } proc g(x: int): int { return f(x, 1); }",
			"proc main() { write(f__1_bool(3, true)); } proc f__1_bool(x: int, y: bool): int { if x == 0 { return 0; } return f__1_bool(x - 1, y) + g(x); } proc g(x: int): int { return f__1_int(x, 1); } proc f__1_int(x: int, y: int): int { if x == 0 { return 0; } return f__1_int(x - 1, y) + g(x); }",
		},
		{ // params that count down
			"proc main() { f(2); } proc f(param n: int) where n > 0 { f(n - 1); } proc f(param n: int) { if n == 0 { write(n); } }",
			"proc main() { f__1_2(); } proc f__1_2() { f__1_1(); } proc f__1_1() { f__2_0(); } proc f__2_0() { { write(0); } }",
		},
		{ // intents, iterators and private ones stay
			"proc main() { f(1, true); } private proc f(in x: ?t, const y: bool): t { x = 1; return x; }",
			"proc main() { f__1_int(1, true); } private proc f__1_int(in x: int, const y: bool): int { x = 1; return x; }",
		},
		{ // two of the name main
			"proc main() { main(1); } proc main(x: int) { }",
			"proc main__0() { main__1(1); } proc main__1(x: int) { }",
		},
		{
			"proc main(x: int) { } iter main(): int { yield 1; } proc main() { }",
			"iter main__1(): int { yield 1; }",
		},
		{ // a param with the name of a local
			"proc main() { f(3); } proc f(param n: int) { write(n); { var n = 1; write(n); } for n in 1..n { write(n); } }",
			"proc main() { f__1_3(); } proc f__1_3() { write(3); { var n = 1; write(n); } for n in 1..3 { write(n); } }",
		},
	} {
		p := program(t, c[0])
		got, e := generic.Program(p)
		want := program(t, c[1])
		for i := range want.Procs { // syntax reads ?t and t as what they are written
			want.Procs[i].Private = strings.Contains(c[1], "private proc "+want.Procs[i].Name)
		}
		if e != api.OK || !same(got, want) {
			text, _ := syntax.Write(modules(got))
			t.Errorf("Program(%s) = %v, %s", c[0], e, text)
		}
		if !same(p, program(t, c[0])) {
			t.Errorf("Program(%s) has changed it", c[0])
		}
	}
}

func each(form, words string) []string {
	var l []string
	for _, w := range strings.Fields(words) {
		l = append(l, strings.ReplaceAll(form, "KIND", w))
	}
	return l
}

// TestProgramErrors asks for the first error of programs.
func TestProgramErrors(t *testing.T) {
	for text, want := range map[string]api.Errno{
		"param n = x;":                                                                     param.ErrStatic,
		"proc f() { param n = x; }":                                                        param.ErrStatic,
		"proc f() { }":                                                                     api.ErrMissing,
		"proc main(x: int) { }":                                                            api.ErrMissing,
		"proc main() where true { }":                                                       api.ErrMissing,
		"proc main() { f(x); }":                                                            api.ErrMissing,
		"proc main() { f(1 + true); }":                                                     api.ErrType,
		"proc main() { f(1); }":                                                            generic.ErrNone,
		"proc main() { f(); } proc f(x: ?t) { }":                                           generic.ErrNone,
		"proc main() { f(true); } proc f(x: int) { }":                                      generic.ErrNone,
		"proc main() { f(1); } proc f(x: int) { } proc f(y: int) { }":                      generic.ErrAmbiguous,
		"proc main() { f(1); } proc f(x: ?t) { } proc f(param n: int) { }":                 generic.ErrAmbiguous,
		"proc main() { f(1); } proc f(param n: int) where n > 1 { }":                       generic.ErrNone,
		"proc main() { var n = 1; f(n); } proc f(param n: int) { }":                        generic.ErrNone,
		"proc main() { f(v()); } proc f(x: ?t) { } proc v() { }":                           generic.ErrNone,
		"proc main() { f(void); } proc f(type t) { }":                                      api.ErrArgument,
		"proc main() { f(it()); } proc f(x: int) { } iter it(): int { yield 1; }":          check.ErrPlace,
		"proc main() { f(1); } proc f(x: ?t) { } proc f__1_int() { }":                      api.ErrDuplicate,
		"proc main() { f(1); } proc f(x: int) { } proc f(x: bool) { } proc f__2() { }":     api.OK,
		"proc main() { f(1); } proc f(x: int) { } proc f(x: bool) { } proc f__1() { }":     api.ErrDuplicate,
		"proc f__2_int() { } proc main() { f(1); } proc f(x: ?t) { }":                      api.ErrDuplicate,
		"proc main() { f(0); } proc f(param n: int) { f(n + 1); }":                         generic.ErrInstances,
		"proc main() { f(true); } proc f(x: ?t) { write(g(x)); } proc g(x: int): int { }":  generic.ErrNone,
		"proc main() { var x = f(); } proc f() { }":                                        api.OK,
		"proc main() { var x = y; }":                                                       api.ErrMissing,
		"proc main() { var x: int = y; }":                                                  api.OK,
		"proc main() { var x: [1..2] int; }":                                               api.ErrType,
		"proc main() { var x: [y] int; }":                                                  api.ErrMissing,
		"proc main() { write(y); z = 1; }":                                                 api.OK,
		"var x = y; proc main() { }":                                                       api.ErrMissing,
		"var x = 1 + true; proc main() { f(1); }":                                          api.ErrType,
		"var x: [1..2] int; proc main() { }":                                               api.ErrType,
		"var x: int = y; proc main() { }":                                                  api.OK,
		"proc main() { f(1); var x = y; } proc f(x: int) { g(); }":                         api.ErrMissing,
		"proc main() { f(1); } proc f(x: int) { g(); }":                                    generic.ErrNone,
		"proc main() { f(1); } proc f(x: ?t) { param k = t; }":                             param.ErrStatic,
		"proc main() { f(1); } proc " + strings.Repeat("f", 40) + "(x: ?t) { }":            generic.ErrNone,
		"proc main() { for i in 1..2 { f(i); } i = f(i); } proc f(x: ?t): t { return x; }": api.ErrMissing,
		"proc main() { f(" + strings.Repeat("1, ", 20) + "1); } proc f(x: int) { }":        api.ErrCount,
	} {
		got, e := generic.Program(program(t, text))
		if e != want || e != api.OK && (got.Globals != nil || got.Procs != nil) {
			t.Errorf("Program(%s) = %v, want %v", text, e, want)
		}
	}
	name := strings.Repeat("f", 37)
	if _, e := generic.Program(program(t, "proc main() { "+name+"(1); } proc "+name+"(x: ?t) { }")); e != api.ErrLarge {
		t.Errorf("Program with a long name: %v", e)
	}
	if _, e := generic.Program(api.Program{Globals: []api.Node{{}}}); e != api.ErrForm {
		t.Errorf("Program of no right form: %v", e)
	}
}

// TestProgramSizes asks for the limits of instances and of nodes.
func TestProgramSizes(t *testing.T) {
	calls := func(n int) string {
		var b strings.Builder
		for i := range n {
			b.WriteString("f(" + strconv.Itoa(i) + "); ")
		}
		return b.String()
	}
	const f = " proc f(param n: int) { }"
	got, e := generic.Program(program(t, "proc main() { "+calls(99)+"}"+f))
	if e != api.OK || len(got.Procs) != 100 {
		t.Errorf("100 instances: %d, %v", len(got.Procs), e)
	}
	if _, e := generic.Program(program(t, "proc main() { "+calls(100)+"}"+f)); e != generic.ErrInstances {
		t.Errorf("101 instances: %v", e)
	}
	if _, e := generic.Program(program(t, "proc main() { "+calls(90)+"} proc f(param n: int) { "+strings.Repeat("write(n); ", 30)+"}")); e != api.ErrCount {
		t.Errorf("too many nodes: %v", e)
	}
}

// TestMore asks P14.4 of a program: procedures with other names change indices at most.
func TestMore(t *testing.T) {
	text := "proc f(x: ?t): t { return x; } var a = f(1); proc main() { write(f(a), f(true), g(2)); } proc g(param n: int): int { return n; }"
	want, e := generic.Program(program(t, text))
	if e != api.OK {
		t.Fatalf("Program = %v", e)
	}
	if got, e := generic.Program(program(t, text+" proc h(x: ?t) { f(x); } iter k(): int { yield 1; }")); e != api.OK || !same(got, want) {
		t.Errorf("with more at the end: %v, %v", got, e)
	}
	got, e := generic.Program(program(t, "proc h(x: ?t) { f(x); } "+text))
	if e != api.OK || len(got.Procs) != len(want.Procs) {
		t.Fatalf("with more at the beginning: %v, %v", got, e)
	}
	for i, f := range got.Procs {
		if renamed := strings.NewReplacer("f__1", "f__0", "g__3", "g__2").Replace(f.Name); renamed != want.Procs[i].Name {
			t.Errorf("the procedure %d is %s, want %s", i, renamed, want.Procs[i].Name)
		}
	}
}

// TestPlain asks P14.2 of a program without generics.
func TestPlain(t *testing.T) {
	ordered := "var x = f(1); proc main() { g(true); for i in it() { h(i); } } proc f(a: int): int { return a; } private proc g(b: bool) { if b { write(x); } } iter it(): int { yield k(); } proc h(a: int) { f(a); } proc k(): int { return 1; }"
	p := program(t, ordered)
	if _, e := check.Program(p); e != api.OK {
		t.Fatalf("check.Program = %v", e)
	}
	if got, e := generic.Program(p); e != api.OK || !same(got, p) {
		t.Errorf("Program = %v, %v", got, e)
	}
	other := api.Program{Globals: p.Globals, Procs: slices.Clone(p.Procs)}
	slices.Reverse(other.Procs)
	if got, e := generic.Program(other); e != api.OK || !same(got, p) {
		t.Errorf("Program in another order = %v, %v", got, e)
	}
}
