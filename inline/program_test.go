package inline_test

import (
	"slices"
	"strconv"
	"strings"
	"testing"

	"raddle/api"
	"raddle/check"
	"raddle/inline"
)

// sameProgram reports whether programs are equal, where an empty list is none.
func sameProgram(a, b api.Program) bool {
	sameFormal := func(a, b api.Formal) bool {
		return a.Intent == b.Intent && a.Name == b.Name && same(a.Type, b.Type)
	}
	sameProc := func(a, b api.Proc) bool {
		return a.Name == b.Name && a.Iter == b.Iter && a.Private == b.Private && slices.EqualFunc(a.Formals, b.Formals, sameFormal) &&
			same(a.Result, b.Result) && slices.EqualFunc(a.Where, b.Where, same) && slices.EqualFunc(a.Body, b.Body, same)
	}
	return slices.EqualFunc(a.Globals, b.Globals, same) && slices.EqualFunc(a.Procs, b.Procs, sameProc)
}

// told writes the procedures of a program, each in one line, without their heads but for the names of formal arguments.
func told(t *testing.T, p api.Program) string {
	t.Helper()
	var l []string
	for _, f := range p.Procs {
		s := f.Name
		for _, a := range f.Formals {
			s += " " + a.Name
		}
		l = append(l, s+" "+flat(t, api.Node{Op: api.BlockOf, Kids: f.Body}))
	}
	return strings.Join(l, "\n")
}

func lines(l ...string) string { return strings.Join(l, "\n") }

// TestProgram asks for programs without iterators.
func TestProgram(t *testing.T) {
	for _, c := range []struct{ items, want string }{
		{two + "proc main() { for i in two(5) { write(i); } }",
			"main { { const n__i1 = 5; { { const i = n__i1; { write(i); } } { const i = n__i1 + 1; { write(i); } } } } }"},
		{"iter none(): int { } proc main() { write(1); }",
			"main { write(1); }"},
		// numbers go on, through procedures, copies of the block, and what loops have become
		{two + "proc main() { for i in two(1) { for j in two(i) { } } f(); } proc f() { for i in two(3) { } }", lines(
			"main { { const n__i1 = 1; { { const i = n__i1; { { const n__i2 = i; { { const j = n__i2; { } } { const j = n__i2 + 1; { } } } } } } { const i = n__i1 + 1; { { const n__i3 = i; { { const j = n__i3; { } } { const j = n__i3 + 1; { } } } } } } } } f(); }",
			"f { { const n__i4 = 3; { { const i = n__i4; { } } { const i = n__i4 + 1; { } } } } }")},
		{"proc main() { for i in b() { write(i); } } iter b(): int { for j in a(1) { yield j; } for j in a(2) { yield j; } } iter a(n: int): int { var x = n; yield x; }",
			"main { { { { const n__i2 = 1; { var x__i2 = n__i2; { const j__i1 = x__i2; { { const i = j__i1; { write(i); } } } } } } { const n__i3 = 2; { var x__i3 = n__i3; { const j__i1 = x__i3; { { const i = j__i1; { write(i); } } } } } } } } }"},
		// a block that is never gone through has no numbers
		{"iter none(): int { } iter one(): int { yield 1; } proc main() { for i in none() { for j in one() { } } for k in one() { } }",
			"main { { { } } { { { const k = 1; { } } } } }"},
		// blocks of all statements, in order
		{"iter o(): int { var x = 1; yield x; } proc main() { if true { for i in o() { } } else { for i in o() { } } while false { for i in o() { } } for i in 1..2 { for i in o() { } } forall i in 1..2 { for i in o() { } } coforall i in 1..2 { for i in o() { } } begin { for i in o() { } } cobegin { { for i in o() { } } { for i in o() { } } } sync { for i in o() { } } on 0 { for i in o() { } } { for i in o() { } } }",
			"main { if true { " + one(1) + " } else { " + one(2) + " } while false { " + one(3) + " } for i in 1..2 { " + one(4) + " } forall i in 1..2 { " + one(5) + " } coforall i in 1..2 { " + one(6) + " } begin { " + one(7) + " } cobegin { { " + one(8) + " } { " + one(9) + " } } sync { " + one(10) + " } on 0 { " + one(11) + " } { " + one(12) + " } }"},
		// locals with the name of a global
		{"var g = 1; var h = 2; proc main() { g = 1; var g = g + h; g += 1; { var h = g; for g in 1..h { write(g, h); } } f(h); } proc f(g: int) { write(g, h); var x = g; begin { write(x, g); } }", lines(
			"main { g = 1; var g__l = g + h; g__l += 1; { var h__l = g__l; for g__l in 1..h__l { write(g__l, h__l); } } f(h); }",
			"f g__l { write(g__l, h); var x = g__l; begin { write(x, g__l); } }")},
		{"var g = 1; iter it(g: int, a: array(1)): int { yield g; var a = 2; yield a; } iter at(): int { g += 1; yield g; } proc main() { var a: [{1..2}] int; for g in it(g, a) { write(g); } for g in at() { write(g); } var g = 3; for i in at() { write(i, g); } }",
			"main { var a: [{1..2}] int; { const g__l__i1 = g; { { const g__l = g__l__i1; { write(g__l); } } var a__i1 = 2; { const g__l = a__i1; { write(g__l); } } } } { { g += 1; { const g__l = g; { write(g__l); } } } } var g__l = 3; { { g += 1; { const i = g; { write(i, g__l); } } } } }"},
		{"var a: [{1..2}] int; iter it(b: array(1), in s: int): int { s = s + b[1]; yield s; var b = 1; yield b; } proc main() { for a in it(a, 1) { write(a); } }",
			"main { { var s__i1 = 1; { s__i1 = s__i1 + a[1]; { const a__l = s__i1; { write(a__l); } } var b__i1 = 1; { const a__l = b__i1; { write(a__l); } } } } }"},
		// names with something of a mark
		{"iter one(): int { yield 1; } proc __i__l() { } proc main() { var a_i1 = 1; var _l = 2; var __k = 3; __i__l(); }", lines(
			"__i__l { }",
			"main { var a_i1 = 1; var _l = 2; var __k = 3; __i__l(); }")},
	} {
		p := program(t, c.items)
		q, e := inline.Program(p)
		if e != api.OK {
			t.Errorf("%s: %v", c.items, e)
			continue
		}
		if got := told(t, q); got != c.want {
			t.Errorf("%s\n%s\nwant\n%s", c.items, got, c.want)
		}
		if !check.Core(q) || !slices.EqualFunc(p.Globals, q.Globals, same) {
			t.Errorf("%s: %v", c.items, q)
		}
		if !sameProgram(p, program(t, c.items)) {
			t.Errorf("%s was changed", c.items)
		}
	}
}

// one is what a loop over an iterator with a local becomes, with a number.
func one(number int) string {
	x := "x__i" + strconv.Itoa(number)
	return "{ { var " + x + " = 1; { const i = " + x + "; { } } } }"
}

// TestHeads asks that heads of procedures stay, but for names.
func TestHeads(t *testing.T) {
	p := program(t, "var x = 1; private proc f(in x: int, const y: bool, z: array(2)): range { return 1..x; } iter g(): int { } proc main() { }")
	q, e := inline.Program(p)
	want := p.Procs[0]
	want.Formals = slices.Clone(want.Formals)
	want.Formals[0].Name = "x__l"
	want.Body = []api.Node{statement(t, "return 1..x__l;")}
	if e != api.OK || !sameProgram(q, api.Program{Globals: p.Globals, Procs: []api.Proc{want, p.Procs[2]}}) {
		t.Errorf("Program = %v, %v", q, e)
	}
}

// TestOwn asks P16.2: a program without iterators, and locals with the names of globals, stays.
func TestOwn(t *testing.T) {
	for _, items := range []string{
		"proc main() { }",
		"var g: int; const k = 1; var a: [{1..2}] int; proc f(x: int, in y: bool): int { var z = x; { var z = y; write(z); } return z; } proc main() { for i in 1..f(2, true) { forall j in 1..i { write(g, j); } } sync { begin { g = 1; } } }",
	} {
		p := program(t, items)
		if q, e := inline.Program(p); e != api.OK || !sameProgram(p, q) {
			t.Errorf("%s: %v, %v", items, q, e)
		}
	}
}

// TestOrderOfIterators asks P16.4.
func TestOrderOfIterators(t *testing.T) {
	main := "proc main() { for i in c(4) { write(i); } for i in a(g) { f(i); } } "
	f := "proc f(n: int) { for i in b(n) { for j in b(i) { write(i, j); } } } "
	iterators := []string{
		"iter a(n: int): int { yield n; var g = n; yield g; } ",
		"iter b(n: int): int { for i in a(n) { yield i; } yield n; } ",
		"iter c(n: int): int { for i in b(n) { for j in a(i) { yield i + j; } } } ",
	}
	want, e := inline.Program(program(t, "var g = 1; "+strings.Join(iterators, "")+main+f))
	if e != api.OK {
		t.Fatal(e)
	}
	for _, order := range [][]int{{0, 1, 2}, {0, 2, 1}, {1, 0, 2}, {1, 2, 0}, {2, 0, 1}, {2, 1, 0}} {
		var l []string
		for _, i := range order {
			l = append(l, iterators[i])
		}
		for _, items := range []string{main + l[0] + f + l[1] + l[2], l[0] + main + l[1] + l[2] + f, main + f + l[0] + l[1] + l[2]} {
			if q, e := inline.Program(program(t, "var g = 1; "+items)); e != api.OK || !sameProgram(q, want) {
				t.Errorf("%s: %v, %s", items, e, told(t, q))
			}
		}
	}
}

// TestProgramErrors asks for the errors, and for the one that comes first.
func TestProgramErrors(t *testing.T) {
	long := strings.Repeat("n", 36)
	self := "iter s(): int { for i in s() { yield i; } } "
	numbers := strings.TrimSuffix(strings.Repeat("1, ", 1200), ", ")
	for _, c := range []struct {
		items string
		want  api.Errno
	}{
		{"proc f() { }", check.ErrMain},
		{"proc main() { var a__i = 1; x = 1; }", api.ErrMissing},
		{self + "proc main() { x = 1; }", api.ErrMissing},
		// a loop over an iterator with two names
		{two + "proc main() { for (i, j) in two(1) { } }", api.ErrType},
		{two + "iter more(): int { for (i, j) in two(1) { yield i; } } proc main() { var a__i = 1; }", api.ErrType},
		// names with a mark
		{"var a__i = 1; proc main() { }", inline.ErrNames},
		{"var __l: int; proc main() { }", inline.ErrNames},
		{"proc main() { var x__lx = 1; }", inline.ErrNames},
		{"proc main() { { if true { const x__ix = 1; } } }", inline.ErrNames},
		{"proc main() { for __i1 in 1..2 { } }", inline.ErrNames},
		{"proc main() { for (i, j__l) in {1..2, 1..2} { } }", inline.ErrNames},
		{"proc main() { forall a__i in 1..2 { } }", inline.ErrNames},
		{"proc main() { coforall a__l in 1..2 { } }", inline.ErrNames},
		{"proc main() { } proc f(a__i3: int) { }", inline.ErrNames},
		{"proc main() { } iter f(x: int, in a__l: int): int { }", inline.ErrNames},
		{"proc main() { } iter f(): int { var a__i = 1; }", inline.ErrNames},
		{self + "proc main() { var a__i = 1; }", inline.ErrNames},
		// iterators that go through themselves
		{self + "proc main() { }", inline.ErrRecursive},
		{"proc main() { } iter s(n: int): int { if n > 0 { for i in 1..n { for j in s(i) { } } } }", inline.ErrRecursive},
		{"proc main() { } iter a(): int { for i in b() { } } iter b(): int { for i in c() { } } iter c(): int { while true { for i in a() { } } }", inline.ErrRecursive},
		{"proc main() { } iter a(): int { for i in b() { } } iter b(): int { for i in b() { } }", inline.ErrRecursive},
		{"proc main() { } iter a(): int { for i in b() { for j in c() { } } } iter b(): int { } iter c(): int { for i in a() { } }", inline.ErrRecursive},
		{"proc main() { } iter a(): int { for i in b() { for j in c() { } } } iter b(): int { for i in c() { } } iter c(): int { }", api.OK},
		{"proc f() { for i in a() { f(); } } iter a(): int { f(); yield 1; } proc main() { f(); }", api.OK},
		// what is too large
		{"iter a(): int { yield 1; yield 2; yield 3; yield 4; } proc main() { for i in a() { write(" + numbers + "); } }", api.ErrLarge},
		{"iter a(): int { for i in a() { } } proc main() { for i in a() { write(" + numbers + "); } }", inline.ErrRecursive},
		{"iter a(): int { yield 1; yield 2; yield 3; } proc main() { for i in a() { write(" + numbers + "); } }", api.OK},
		{"iter a(): int { yield 1; yield 2; } proc main() { for i in a() { write(" + numbers + "); } } proc f() { for i in a() { write(" + numbers + "); } }", api.ErrCount},
		// the program that is made has an error
		{"iter a(): int { var " + long + " = 1; yield 1; } proc main() { for i in a() { } }", api.OK},
		{"iter a(): int { var " + long + "n = 1; yield 1; } proc main() { }", api.OK},
		{"iter a(): int { var " + long + "n = 1; yield 1; } proc main() { for i in a() { } }", api.ErrForm},
		{"var " + long + "n = 1; proc main() { var " + long + "n = 1; }", api.OK},
		{"var " + long + "nn = 1; proc main() { var " + long + "nn = 1; }", api.ErrForm},
		// each one makes 4 blocks
		{nested(13) + "proc main() { for i in a13() { write(i); } }", api.OK},
		{nested(14) + "proc main() { for i in a14() { write(i); } }", api.ErrDepth},
		// 13 iterators of which each one goes through the next one twice
		{doubling(13) + "proc main() { for i in a13() { } }", api.ErrLarge},
	} {
		q, e := inline.Program(program(t, c.items))
		if e != c.want || e != api.OK && !sameProgram(q, api.Program{}) {
			t.Errorf("%s: Program = %v, want %v", c.items, e, c.want)
		}
	}
	for i, p := range []api.Program{{}, {Globals: []api.Node{{}}}, {Procs: []api.Proc{{Iter: true}}}} {
		_, want := check.Program(p)
		if q, e := inline.Program(p); e != want || e == api.OK || !sameProgram(q, api.Program{}) {
			t.Errorf("%d: Program = %v, want %v", i, e, want)
		}
		if _, e := inline.Yields(p, ""); e != want {
			t.Errorf("%d: Yields = %v, want %v", i, e, want)
		}
	}
}

// nested has iterators of which each one goes through the one ahead.
func nested(depth int) string {
	s := "iter a0(): int { yield 1; } "
	for i := range depth {
		s += "iter a" + strconv.Itoa(i+1) + "(): int { for i in a" + strconv.Itoa(i) + "() { yield i; } } "
	}
	return s
}

// doubling has iterators of which each one goes through the one ahead twice; the first one yields nothing.
func doubling(depth int) string {
	s := "iter a0(): int { } "
	for i := range depth {
		loop := "for i in a" + strconv.Itoa(i) + "() { } "
		s += "iter a" + strconv.Itoa(i+1) + "(): int { " + loop + loop + "} "
	}
	return s
}

// TestLargeMeanwhile asks for procedures that are large only while they are made.
func TestLargeMeanwhile(t *testing.T) {
	for numbers, want := range map[int]api.Errno{1000: api.OK, 1989: api.OK, 1990: api.ErrLarge, 3000: api.ErrLarge} {
		items := "iter a(): int { yield 1; yield 2; } iter none(): int { } proc main() { for i in a() { for j in none() { write(" + strings.TrimSuffix(strings.Repeat("1, ", numbers), ", ") + "); } } }"
		q, e := inline.Program(program(t, items))
		if e != want {
			t.Errorf("with %d numbers: %v, want %v", numbers, e, want)
		}
		if e == api.OK && told(t, q) != "main { { { { const i = 1; { { { } } } } { const i = 2; { { { } } } } } } }" {
			t.Errorf("with %d numbers: %s", numbers, told(t, q))
		}
	}
}

// TestYields asks for the numbers of Yields.
func TestYields(t *testing.T) {
	yields := func(n int) string { return strings.Repeat("yield 1; ", n) }
	items := two +
		"iter none(): int { } " +
		"iter many(n: int): int { yield n; if n > 0 { yield 1; } else { while n > 9 { yield 2; { yield 3; } } } for i in 1..n { yield i; } } " +
		"iter through(): int { for i in two(1) { yield i; yield i; for j in many(i) { yield j; for k in two(j) { yield k; } } } yield 0; } " +
		"iter idle(): int { for i in many(1) { for j in none() { yield j; } } } " +
		"proc p() { for i in two(1) { } } proc main() { }"
	for name, want := range map[string]int{"two": 2, "none": 0, "many": 5, "through": 2*(2+5*(1+2)) + 1, "idle": 0} {
		if n, e := inline.Yields(program(t, items), name); n != want || e != api.OK {
			t.Errorf("Yields(%s) = %d, %v, want %d", name, n, e, want)
		}
	}
	products := "iter a(): int { " + yields(40) + "} iter b(): int { for i in a() { " + yields(100) + "} } iter c(): int { for i in b() { yield i; } yield 1; } iter d(): int { for i in c() { for j in c() { for k in c() { for l in c() { for m in c() { yield m; } } } } } } iter e(): int { for i in d() { } for i in d() { for j in f() { yield j; } } yield 1; } iter f(): int { } proc main() { }"
	self := "iter s(): int { for i in s() { } yield 1; } iter b(): int { for i in s() { } } iter c(): int { yield 1; } proc main() { }"
	for _, c := range []struct {
		items, name string
		want        int
		e           api.Errno
	}{
		{products, "b", 4000, api.OK},
		{products, "c", 0, api.ErrLarge},
		{products, "d", 0, api.ErrLarge},
		{products, "e", 1, api.OK},
		{items, "p", 0, api.ErrMissing},
		{items, "main", 0, api.ErrMissing},
		{items, "other", 0, api.ErrMissing},
		{items, "", 0, api.ErrMissing},
		{"iter a(): int { yield 1; }", "a", 0, check.ErrMain},
		{"iter a(): int { yield 1; }", "b", 0, check.ErrMain},
		{self, "s", 0, inline.ErrRecursive},
		{self, "b", 0, inline.ErrRecursive},
		{self, "c", 0, inline.ErrRecursive},
		{self, "d", 0, api.ErrMissing},
		{"iter a(): int { var x__i = 1; yield x__i; } proc main() { }", "a", 1, api.OK},
		{doubling(99-2) + "proc main() { }", "a97", 0, api.OK},
		{two + "iter more(): int { for (i, j) in two(1) { yield i; } } proc main() { }", "two", 0, api.ErrType},
	} {
		if n, e := inline.Yields(program(t, c.items), c.name); n != c.want || e != c.e {
			t.Errorf("%s: Yields(%s) = %d, %v, want %d, %v", c.items, c.name, n, e, c.want, c.e)
		}
	}
}
