package lower_test

import (
	"strconv"
	"strings"
	"testing"

	"raddle/api"
	"raddle/lower"
	"raddle/syntax"
)

// program returns the program of a module with some items.
func program(t *testing.T, items string) api.Program {
	t.Helper()
	p, at, e := syntax.Program("module M { " + items + " }")
	if e != api.OK {
		t.Fatalf("%s: %v at %d", items, e, at)
	}
	return p
}

// codeOf returns the code of a program, which must be right.
func codeOf(t *testing.T, p api.Program) api.Code {
	t.Helper()
	c, e := lower.Program(p)
	if e != api.OK {
		t.Fatalf("Program = %v", e)
	}
	if e := lower.Check(c); e != api.OK {
		t.Fatalf("Check of lowered code = %v", e)
	}
	return c
}

// short writes a body in one line: of each instruction only the fields that its Op has.
func short(b api.Body) string {
	l := []string{strconv.Itoa(b.Registers) + " " + strconv.Itoa(b.Arguments)}
	all := rows()
	for _, i := range b.Code {
		r := all[i.Op-1]
		s := r.word
		for n, v := range []int{i.A, i.B, i.C, i.D} {
			if r.fields[n] != '0' {
				s += " " + strconv.Itoa(v)
			}
		}
		if r.list != "0" {
			s += " [" + strings.Join(texts(i.List), " ") + "]"
		}
		if i.Text != "" {
			s += " " + strings.ReplaceAll(i.Text, "\x00", "_")
		}
		l = append(l, s)
	}
	return strings.Join(l, "; ")
}

// constructs has programs, and what bodies of them are: registers, arguments, and the instructions.
func constructs() []struct{ items, want string } {
	return []struct{ items, want string }{
		{"proc main() { write(1 + 2); }", `
			_start: 1 0; call 0 1 []; return -1
			main: 3 0; set 0 1; set 1 2; binary 2 0 1 +; write [2] _; return -1`},
		{"var g = 1; proc main() { var x = 5; write(x, g, here, numLocales, true); }", `
			_start: 3 0; set 0 1; copy 1 0; put 0 1; call 2 1 []; return -1
			main: 6 0; set 0 5; copy 1 0; get 2 0; here 3; locales 4; set 5 1; write [1 2 3 4 5] _____; return -1`},
		{"proc main() { } proc f(x: int, b: bool) { write(-x, !b); }", `
			main: 0 0; return -1
			f: 4 2; unary 2 0 -; unary 3 1 !; write [2 3] __; return -1`},
		{"proc main() { } proc f(in b: bool, x: bool, y: bool, z: bool) { b = x && y || z; }", `
			f: 7 4; copy 4 1; if 4 3; copy 4 2; copy 5 4; unary 6 5 !; if 6 7; copy 5 3; copy 0 5; return -1`},
		{"proc main() { var r = 1..9 by 2 # 3; var d = {r, 1..2} dmapped blockcyclic(4); }", `
			main: 15 0; set 0 1; set 1 9; range 2 0 1; set 3 2; by 4 2 3; set 5 3; count 6 4 5; copy 7 6; set 8 1; set 9 2; range 10 8 9; domain 11 [7 10]; set 12 4; map 13 11 3 12; copy 14 13; return -1`},
		{"proc main() { } proc f(r: range) { var a = {r} dmapped block; var b = {r} dmapped cyclic; var c = {r} dmapped hashed; }", `
			f: 10 1; domain 1 [0]; map 2 1 1 -1; copy 3 2; domain 4 [0]; map 5 4 2 -1; copy 6 5; domain 7 [0]; map 8 7 4 -1; copy 9 8; return -1`},
		{"proc main() { } proc f(d: domain(2)) { var a: [d] int; var c: sync; var q: atomic; var i: int; var b: bool; i = a[1, 2]; }", `
			f: 9 1; array 1 0; cell 2; atomic 3; set 4 0; set 5 0; set 6 1; set 7 2; load 8 1 [6 7]; copy 4 8; return -1`},
		{"proc main() { } proc f(r: range, a: array(1)) { write(r.size, r.low, r.high, r.stride, a.domain.size); }", `
			f: 8 2; field 2 0 size; field 3 0 low; field 4 0 high; field 5 0 stride; field 6 1 domain; field 7 6 size; write [2 3 4 5 7] _____; return -1`},
		// assignments
		{"proc main() { } proc f(in x: int, y: int) { x = y; x += y; x -= y; x *= 3; }", `
			f: 3 2; copy 0 1; binary 0 0 1 +; binary 0 0 1 -; set 2 3; binary 0 0 2 *; return -1`},
		{"var g: int; const h: bool = true; var a: [{1..g}] int; var c: sync; var d = {1..2}; proc main() { a[1] += g; g *= 2; g = 3; a[2] = g; }", `
			_start: 15 0; set 0 0; put 0 0; set 1 1; copy 2 1; put 1 2; set 3 1; get 4 0; range 5 3 4; domain 6 [5]; array 7 6; put 2 7; cell 8; put 3 8; set 9 1; set 10 2; range 11 9 10; domain 12 [11]; copy 13 12; put 4 13; call 14 1 []; return -1
			main: 12 0; get 0 2; set 1 1; get 2 0; load 3 0 [1]; binary 4 3 2 +; store 0 4 [1]; set 5 2; get 6 0; binary 7 6 5 *; put 0 7; set 8 3; put 0 8; get 9 2; set 10 2; get 11 0; store 9 11 [10]; return -1`},
		{"var q: atomic; var g = q.fetchAdd(1); proc f() { } proc main() { q.add(g); }", `
			_start: 6 0; atomic 0; put 0 0; get 1 0; set 2 1; onatom 3 1 [2] fetchAdd; copy 4 3; put 1 4; call 5 2 []; return -1
			main: 2 0; get 0 0; get 1 1; onatom -1 0 [1] add; return -1`},
		// ways
		{"proc main() { } proc f(b: bool) { if b { write(1); } write(2); }", `
			f: 3 1; if 0 3; set 1 1; write [1] _; set 2 2; write [2] _; return -1`},
		{"proc main() { } proc f(b: bool) { if b { write(1); } else { write(2); } }", `
			f: 3 1; if 0 4; set 1 1; write [1] _; jump 6; set 2 2; write [2] _; return -1`},
		{"proc main() { } proc f(in n: int) { while n > 0 { n -= 1; } }", `
			f: 4 1; set 1 0; binary 2 0 1 >; if 2 6; set 3 1; binary 0 0 3 -; jump 0; return -1`},
		{"proc main() { } proc f(r: range) { for i in r { write(i); } }", `
			f: 6 1; field 1 0 size; set 2 0; set 3 1; binary 4 2 1 <; if 4 9; nth 5 0 0 2; write [5] _; binary 2 2 3 +; jump 3; return -1`},
		{"proc main() { } proc f(a: array(2)) { for v in a { write(v); } }", `
			f: 8 1; field 1 0 size; set 2 0; set 3 1; binary 4 2 1 <; if 4 11; nth 5 0 0 2; nth 6 0 1 2; load 7 0 [5 6]; write [7] _; binary 2 2 3 +; jump 3; return -1`},
		{"proc main() { } proc f(a: array(1)) { for v in a { write(v); } }", `
			f: 7 1; field 1 0 size; set 2 0; set 3 1; binary 4 2 1 <; if 4 10; nth 5 0 0 2; load 6 0 [5]; write [6] _; binary 2 2 3 +; jump 3; return -1`},
		{"proc main() { } proc f(d: domain(2)) { for (i, j) in d { write(i, j); } }", `
			f: 7 1; field 1 0 size; set 2 0; set 3 1; binary 4 2 1 <; if 4 10; nth 5 0 0 2; nth 6 0 1 2; write [5 6] __; binary 2 2 3 +; jump 3; return -1`},
		{"proc main() { } proc f(a: array(1)) { write(max reduce a); }", `
			f: 8 1; field 1 0 size; set 2 -9223372036854775808; set 3 0; set 4 1; binary 5 3 1 <; if 5 11; nth 6 0 0 3; load 7 0 [6]; binary 2 2 7 max; binary 3 3 4 +; jump 4; write [2] _; return -1`},
		{"proc main() { } proc f(a: array(2)) { write(* reduce a); }", `
			f: 9 1; field 1 0 size; set 2 1; set 3 0; set 4 1; binary 5 3 1 <; if 5 12; nth 6 0 0 3; nth 7 0 1 3; load 8 0 [6 7]; binary 2 2 8 *; binary 3 3 4 +; jump 4; write [2] _; return -1`},
		{"proc main() { } proc f(r: range) { write(min reduce r); }", `
			f: 7 1; field 1 0 size; set 2 9223372036854775807; set 3 0; set 4 1; binary 5 3 1 <; if 5 10; nth 6 0 0 3; binary 2 2 6 min; binary 3 3 4 +; jump 4; write [2] _; return -1`},
		{"proc main() { } proc f(d: domain(1)) { write(+ reduce d); }", `
			f: 7 1; field 1 0 size; set 2 0; set 3 0; set 4 1; binary 5 3 1 <; if 5 10; nth 6 0 0 3; binary 2 2 6 +; binary 3 3 4 +; jump 4; write [2] _; return -1`},
		{"proc f(x: int): int { assert(x > 0); return if x > 1 then f(x - 1) else x; } proc main() { return; f(2); }", `
			f: 9 1; set 1 0; binary 2 0 1 >; assert 2; set 3 1; binary 4 0 3 >; if 4 11; set 5 1; binary 6 0 5 -; call 7 1 [6]; copy 8 7; jump 12; copy 8 0; return 8; return -1
			main: 2 0; return -1; set 0 2; call 1 1 [0]; return -1`},
		{"proc main() { } proc f(c: sync, q: atomic) { c.writeEF(1); write(c.readFE(), c.isFull()); c.reset(); q.add(2); q.write(3); write(q.read(), q.fetchAdd(1), q.compareAndSwap(1, 2)); c.readFF(); q.exchange(4); c.writeXF(c.readXX()); c.writeFF(0); }", `
			f: 18 2; set 2 1; oncell -1 0 2 writeEF; oncell 3 0 -1 readFE; oncell 4 0 -1 isFull; write [3 4] __; oncell -1 0 -1 reset; set 5 2; onatom -1 1 [5] add; set 6 3; onatom -1 1 [6] write; onatom 7 1 [] read; set 8 1; onatom 9 1 [8] fetchAdd; set 10 1; set 11 2; onatom 12 1 [10 11] compareAndSwap; write [7 9 12] ___; oncell 13 0 -1 readFF; set 14 4; onatom 15 1 [14] exchange; oncell 16 0 -1 readXX; oncell -1 0 16 writeXF; set 17 0; oncell -1 0 17 writeFF; return -1`},
		{"proc main() { } proc f(x: int) { write(\"a\", x, \"b\\\"\", x); write(); }", `
			f: 1 1; write [0 0] a_b"_; write []; return -1`},
		{"proc main() { var x = 1; { var x = 2; write(x); } write(x); for x in 1..1 { write(x); } write(x); }", `
			main: 12 0; set 0 1; copy 1 0; set 2 2; copy 3 2; write [3] _; write [1] _; set 4 1; set 5 1; range 6 4 5; field 7 6 size; set 8 0; set 9 1; binary 10 8 7 <; if 10 18; nth 11 6 0 8; write [11] _; binary 8 8 9 +; jump 12; write [1] _; return -1`},
	}
}

// tasks has programs with tasks.
func tasks() []struct{ items, want string } {
	return []struct{ items, want string }{
		{"proc main() { } proc f(r: range, x: int) { coforall i in r { write(i, x); } }", `
			f: 8 2; field 2 0 size; counter 3; set 4 0; set 5 1; binary 6 4 2 <; if 6 10; nth 7 0 0 4; spawn 3 3 [7 1]; binary 4 4 5 +; jump 4; wait 3; return -1
			f_1: 2 2; write [0 1] __; return -1`},
		{"proc main() { } proc f(a: array(2), x: int) { coforall x in a { write(x); } coforall (i, x) in a.domain { write(a[i, x]); } }", `
			f: 18 2; field 2 0 size; counter 3; set 4 0; set 5 1; binary 6 4 2 <; if 6 12; nth 7 0 0 4; nth 8 0 1 4; load 9 0 [7 8]; spawn 3 3 [9]; binary 4 4 5 +; jump 4; wait 3; field 10 0 domain; field 11 10 size; counter 12; set 13 0; set 14 1; binary 15 13 11 <; if 15 25; nth 16 10 0 13; nth 17 10 1 13; spawn 12 4 [16 17 0]; binary 13 13 14 +; jump 18; wait 12; return -1
			f_1: 1 1; write [0] _; return -1
			f_2: 4 3; load 3 2 [0 1]; write [3] _; return -1`},
		{"proc main() { } proc f(x: int, y: int) { sync { begin { write(y, x, y); } cobegin { { write(x); } { var x = 1; write(x); } } } }", `
			f: 4 2; scope 2; spawn -1 3 [1 0]; counter 3; spawn 3 4 [0]; spawn 3 5 []; wait 3; unscope; wait 2; return -1
			f_1: 2 2; write [0 1 0] ___; return -1
			f_2: 1 1; write [0] _; return -1
			f_3: 2 0; set 0 1; copy 1 0; write [1] _; return -1`},
		{"proc main() { on 1 { write(here); } }", `
			main: 3 0; here 0; set 1 1; go 1; here 2; write [2] _; go 0; return -1`},
		{"proc main() { begin { begin { write(1); } begin { write(2); } } begin { write(3); } f(); } proc f() { begin { write(4); } }", `
			_start: 1 0; call 0 1 []; return -1
			main: 1 0; spawn -1 3 []; spawn -1 6 []; call 0 2 []; return -1
			f: 0 0; spawn -1 7 []; return -1
			main_1: 0 0; spawn -1 4 []; spawn -1 5 []; return -1
			main_2: 1 0; set 0 1; write [0] _; return -1
			main_3: 1 0; set 0 2; write [0] _; return -1
			main_4: 1 0; set 0 3; write [0] _; return -1
			f_1: 1 0; set 0 4; write [0] _; return -1`},
		{"proc main() { } proc f(d: domain(2), in s: int, in b: bool, x: int) { forall (i, j) in d with (+ reduce s, && reduce b) { s += i * x; b = j > 0; } }", `
			f: 29 4; pieces 4 0; counter 5; set 6 1; range 7 6 4; domain 8 [7]; array 9 8; set 10 1; range 11 10 4; domain 12 [11]; array 13 12; set 14 0; set 15 1; binary 16 14 4 <; if 16 17; spawn 5 3 [0 14 9 13 3]; binary 14 14 15 +; jump 12; wait 5; field 17 9 size; set 18 0; set 19 1; binary 20 18 17 <; if 20 28; nth 21 9 0 18; load 22 9 [21]; binary 1 1 22 +; binary 18 18 19 +; jump 21; field 23 13 size; set 24 0; set 25 1; binary 26 24 23 <; if 26 38; nth 27 13 0 24; load 28 13 [27]; binary 2 2 28 &&; binary 24 24 25 +; jump 31; return -1
			f_1: 21 5; piece 5 0 0 1; go 5; piece 6 0 1 1; set 7 0; set 8 1; set 9 0; set 10 1; binary 11 9 6 <; if 11 18; inpiece 12 0 0 1 [9]; inpiece 13 0 1 1 [9]; binary 14 12 4 *; binary 7 7 14 +; set 15 0; binary 16 13 15 >; copy 8 16; binary 9 9 10 +; jump 7; set 17 1; binary 18 1 17 +; store 2 7 [18]; set 19 1; binary 20 1 19 +; store 3 8 [20]; return -1`},
		{"proc main() { } proc f(r: range, x: int, y: int) { forall y in r { write(y, x); } }", `
			f: 8 3; pieces 3 0; counter 4; set 5 0; set 6 1; binary 7 5 3 <; if 7 9; spawn 4 3 [0 5 1]; binary 5 5 6 +; jump 4; wait 4; return -1
			f_1: 9 3; piece 3 0 0 1; go 3; piece 4 0 1 1; set 5 0; set 6 1; binary 7 5 4 <; if 7 11; inpiece 8 0 0 1 [5]; write [8 2] __; binary 5 5 6 +; jump 5; return -1`},
		{"proc main() { } proc f(r: range, in m: int, in n: int, in p: int, in b: bool) { forall i in r with (min reduce m, max reduce n, * reduce p, || reduce b) { } }", `
			f_1: 24 6; piece 6 0 0 1; go 6; piece 7 0 1 1; set 8 9223372036854775807; set 9 -9223372036854775808; set 10 1; set 11 0; set 12 0; set 13 1; binary 14 12 7 <; if 14 14; inpiece 15 0 0 1 [12]; binary 12 12 13 +; jump 9; ` + stores(16, 8, 4) + `return -1`},
		{"var x = 1; proc main() { var y = 2; begin { x = y; var y = 3; forall x in 1..2 with (+ reduce y) { begin { write(x, y); } } } }", `
			main: 2 0; set 0 2; copy 1 0; spawn -1 2 [1]; return -1
			main_1: 21 1; put 0 0; set 1 3; copy 2 1; set 3 1; set 4 2; range 5 3 4; pieces 6 5; counter 7; set 8 1; range 9 8 6; domain 10 [9]; array 11 10; set 12 0; set 13 1; binary 14 12 6 <; if 14 19; spawn 7 3 [5 12 11]; binary 12 12 13 +; jump 14; wait 7; field 15 11 size; set 16 0; set 17 1; binary 18 16 15 <; if 18 30; nth 19 11 0 16; load 20 11 [19]; binary 2 2 20 +; binary 16 16 17 +; jump 23; return -1
			main_2: 12 3; piece 3 0 0 1; go 3; piece 4 0 1 1; set 5 0; set 6 0; set 7 1; binary 8 6 4 <; if 8 12; inpiece 9 0 0 1 [6]; spawn -1 4 [9 5]; binary 6 6 7 +; jump 6; set 10 1; binary 11 1 10 +; store 2 5 [11]; return -1
			main_3: 2 2; write [0 1] __; return -1`},
		{"proc main() { } proc f(r: range, d: domain(2), in b: bool, in c: bool) { forall k in r with (|| reduce b, && reduce c) { for (i, j) in if b && c then d else d { } } }", `
			f_1: 25 5; piece 5 0 0 1; go 5; piece 6 0 1 1; set 7 0; set 8 1; set 9 0; set 10 1; binary 11 9 6 <; if 11 28; inpiece 12 0 0 1 [9]; copy 13 7; if 13 13; copy 13 8; if 13 16; copy 14 4; jump 17; copy 14 4; field 15 14 size; set 16 0; set 17 1; binary 18 16 15 <; if 18 26; nth 19 14 0 16; nth 20 14 1 16; binary 16 16 17 +; jump 20; binary 9 9 10 +; jump 7; ` + stores(21, 7, 2) + `return -1`},
		{"proc main() { var c: sync; var q: atomic; coforall i in 1..2 { on i { q.add(i); c.writeEF(i); } } }", `
			main_1: 4 3; here 3; go 0; onatom -1 1 [0] add; oncell -1 2 0 writeEF; go 3; return -1`},
	}
}

// stores has the end of a task body: the values of registers from one on are put into the lists from 2 on.
func stores(next, from, count int) string {
	s := ""
	for i := range count {
		one, j := strconv.Itoa(next+2*i), strconv.Itoa(next+2*i+1)
		s += "set " + one + " 1; binary " + j + " 1 " + one + " +; store " + strconv.Itoa(2+i) + " " + strconv.Itoa(from+i) + " [" + j + "]; "
	}
	return s
}

// TestProgram asks for the code of each kind of expression and statement.
func TestProgram(t *testing.T) {
	for _, c := range append(constructs(), tasks()...) {
		p := program(t, c.items)
		made := map[string]string{}
		for _, b := range codeOf(t, p).Bodies {
			made[b.Name] = short(b)
		}
		for line := range strings.SplitSeq(strings.TrimSpace(c.want), "\n") {
			name, want, _ := strings.Cut(strings.TrimSpace(line), ": ")
			if made[name] != want {
				t.Errorf("%s\n%s: %s\n  want: %s", c.items, name, made[name], want)
			}
		}
	}
}

// TestOrder asks for the order and the names of bodies.
func TestOrder(t *testing.T) {
	c := codeOf(t, program(t, "proc f() { begin { } } proc main() { cobegin { { begin { } } { coforall i in 1..2 { } } } forall i in 1..2 { begin { } } } proc e() { begin { begin { begin { } } } begin { } }"))
	var names []string
	for _, b := range c.Bodies {
		names = append(names, b.Name)
	}
	want := "_start f main e f_1 main_1 main_2 main_3 main_4 main_5 main_6 e_1 e_2 e_3 e_4"
	if got := strings.Join(names, " "); got != want {
		t.Errorf("bodies %s, want %s", got, want)
	}
	for at, b := range c.Bodies {
		for _, i := range b.Code {
			if i.Op == api.OpSpawn && i.B <= at {
				t.Errorf("%s begins %s", b.Name, names[i.B])
			}
		}
	}
}

// TestNotCore asks for programs that are not core.
func TestNotCore(t *testing.T) {
	for _, items := range []string{
		"proc f() { }",
		"proc main() { x = 1; }",
		"param n = 1; proc main() { write(n); }",
		"proc main() { } iter two(n: int): int { yield n; }",
		"proc main() { } proc f(x: ?t) { }",
	} {
		if c, e := lower.Program(program(t, items)); e != lower.ErrCore || !same(c, api.Code{}) {
			t.Errorf("%s: Program = %v, %v", items, c, e)
		}
	}
	for _, p := range []api.Program{{}, {Globals: []api.Node{{}}}, {Procs: []api.Proc{{Name: "main"}}}} {
		if c, e := lower.Program(p); e != lower.ErrCore || !same(c, api.Code{}) {
			t.Errorf("%v: Program = %v, %v", p, c, e)
		}
	}
}

// TestLimits asks for the greatest programs that have code.
func TestLimits(t *testing.T) {
	times := func(s string, n int) string { return strings.Repeat(s, n) }
	sums := func(n int, of, also string) string {
		return "write(" + times("+ reduce "+of+", ", n) + also + "); "
	}
	arrays := func(n int, also string) string {
		s := "proc main() { " + also + "} "
		for i := range 4 {
			s += "proc f" + strconv.Itoa(i) + "(a: array(1)) { " + sums(n, "a", "1") + "} "
		}
		return s
	}
	many := func(globals int) string {
		s := "proc main() { } "
		for i := range globals {
			s += "var g" + strconv.Itoa(i) + ": int; "
		}
		return s
	}
	for _, c := range []struct {
		what, items string
		want        api.Errno
	}{
		// three bodies without those of tasks
		{"bodies", "proc main() { } proc f() { " + times("begin { } ", 797) + "}", api.OK},
		{"bodies", "proc main() { } proc f() { " + times("begin { } ", 798) + "}", api.ErrLarge},
		// a reduction of a range has six registers
		{"registers", "proc main() { } proc f(r: range) { " + sums(833, "r", "0") + "}", api.OK},
		{"registers", "proc main() { } proc f(r: range) { " + sums(833, "r", "0, 0") + "}", api.ErrLarge},
		// one of an array has 11 instructions; 3 more are in each procedure, 2 in _start, and 1 in main
		{"instructions", arrays(454, times("return; ", 20000-4*(11*454+3)-3)), api.OK},
		{"instructions", arrays(454, times("return; ", 20000-4*(11*454+3)-2)), api.ErrLarge},
		// and the limit of Check
		{"globals", many(1000), api.OK},
		{"globals", many(1001), api.ErrLarge},
	} {
		code, e := lower.Program(program(t, c.items))
		if e != c.want {
			t.Errorf("%s: Program = %v, want %v", c.what, e, c.want)
		}
		if e != api.OK && !same(code, api.Code{}) {
			t.Errorf("%s: a code with an error", c.what)
		}
		if e == api.OK && lower.Check(code) != api.OK {
			t.Errorf("%s: Check = %v", c.what, lower.Check(code))
		}
	}
}
