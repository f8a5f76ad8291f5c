package inline_test

import (
	"math"
	"strings"
	"testing"

	"raddle/api"
	"raddle/check"
	"raddle/inline"
)

const two = "iter two(n: int): int { yield n; yield n + 1; } "

// TestLoop asks for what loops become.
func TestLoop(t *testing.T) {
	for _, c := range []struct {
		items, loop string
		number      int
		want        string
	}{
		{two, "for i in two(5) { write(i); }", 1,
			"{ const n__i1 = 5; { { const i = n__i1; { write(i); } } { const i = n__i1 + 1; { write(i); } } } }"},
		{two, "for n in two(n) { write(n); yield n; }", -12,
			"{ const n__i-12 = n; { { const n = n__i-12; { write(n); yield n; } } { const n = n__i-12 + 1; { write(n); yield n; } } } }"},
		{"iter none(): bool { }", "for i in none() { write(i); }", 0,
			"{ { } }"},
		{"iter one(in n: int, const b: bool, r: range, d: domain(2)): bool { n += r.size + d.size; yield n > 0 && b; }", "for b in one(1, true, r, {r, r}) { }", 7,
			"{ var n__i7 = 1; const b__i7 = true; const r__i7 = r; const d__i7 = {r, r}; { n__i7 += r__i7.size + d__i7.size; { const b = n__i7 > 0 && b__i7; { } } } }"},
		// objects are passed as they are
		{"iter all(a: array(1), n: int, in m: array(2), c: sync, in q: atomic): int { q.add(c.readFE() + m[n, 1]); for i in a { yield a[i]; } f(a, m); a[1] = n; } proc f(x: array(1), y: array(2)) { }",
			"for a in all(x, 2, y, z, a) { write(a, x); }", 3,
			"{ const n__i3 = 2; { a.add(z.readFE() + y[n__i3, 1]); for i__i3 in x { { const a = x[i__i3]; { write(a, x); } } } f(x, y); x[1] = n__i3; } }"},
		// unless another local has the name
		{"iter all(a: array(1)): int { yield a[1]; var a = a.size; yield a; for a in 1..a { yield a; } } ", "for i in all(b) { write(i); }", 3,
			"{ { { const i = b[1]; { write(i); } } var a__i3 = b.size; { const i = a__i3; { write(i); } } for a__i3 in 1..a__i3 { { const i = a__i3; { write(i); } } } } }"},
		// Yields anywhere in the body, but not in the block of the loop
		{"iter some(n: int): int { if n > 0 { yield 1; } else { while false { yield 2; } } { for i in 1..n { yield i; } } }", "for i in some(3) { yield i; }", 2,
			"{ const n__i2 = 3; { if n__i2 > 0 { { const i = 1; { yield i; } } } else { while false { { const i = 2; { yield i; } } } } { for i__i2 in 1..n__i2 { { const i = i__i2; { yield i; } } } } } }"},
		// a loop over an iterator in the body stays
		{two + "iter more(n: int): int { for i in two(n) { yield i; for j in two(i) { yield j; } } }", "for i in more(1) { }", 1,
			"{ const n__i1 = 1; { for i__i1 in two(n__i1) { { const i = i__i1; { } } for j__i1 in two(i__i1) { { const i = j__i1; { } } } } } }"},
		// of two names the first one is the loop's Name
		{two, "for (i, j) in two(5) { write(i, j); }", 1,
			"{ const n__i1 = 5; { { const i = n__i1; { write(i, j); } } { const i = n__i1 + 1; { write(i, j); } } } }"},
		{"iter one(n: int): int { yield n; }", "for (i, j) in one(5) { }", 1,
			"{ const n__i1 = 5; { { const i = n__i1; { } } } }"},
		{"iter one(n: int): int { yield n; }", "for (n, n) in one(n) { write(n); }", 2,
			"{ const n__i2 = n; { { const n = n__i2; { write(n); } } } }"},
		{"iter all(a: array(1)): bool { for i in a { yield i > 0; } }", "for (a, b) in all(x) { for a in two(b) { write(a, b); } }", 3,
			"{ { for i__i3 in x { { const a = i__i3 > 0; { for a in two(b) { write(a, b); } } } } } }"},
		{"iter none(): int { }", "for (i, j) in none() { write(i); }", 0,
			"{ { } }"},
		// globals, and what the procedure around declares
		{"var g = 1; iter it(): int { g += 1; yield g; begin { g = 2; } forall j in 1..2 { write(j, g); } }", "for g in it() { g = 3; }", 1,
			"{ { g += 1; { const g = g; { g = 3; } } begin { g = 2; } forall j__i1 in 1..2 { write(j__i1, g); } } }"},
	} {
		p := program(t, c.items+" proc main() { }")
		loop := statement(t, c.loop)
		n, e := inline.Loop(p, loop, c.number)
		if e != api.OK {
			t.Errorf("Loop(%s) = %v", c.loop, e)
			continue
		}
		got := n
		if c.number < 0 { // such names are none that can be written
			got = renamed(n, "__i-12", "_minus12")
			c.want = strings.ReplaceAll(c.want, "__i-12", "_minus12")
		}
		if s := flat(t, got); s != c.want {
			t.Errorf("Loop(%s) = %s\nwant %s", c.loop, s, c.want)
		}
		if flat(t, loop) != flat(t, statement(t, c.loop)) || !sameProgram(p, program(t, c.items+" proc main() { }")) {
			t.Errorf("Loop(%s) changed what it was given", c.loop)
		}
	}
	n, _ := inline.Loop(program(t, two+"proc main() { }"), statement(t, "for i in two(5) { }"), math.MinInt)
	if n.Kids[0].Name != "n__i-9223372036854775808" {
		t.Errorf("Loop with the least number: %v", n)
	}
}

// renamed returns a tree in which a part of names is another one.
func renamed(n api.Node, old, new string) api.Node {
	n = copied(n)
	n.Name = strings.ReplaceAll(n.Name, old, new)
	for i, k := range n.Kids {
		n.Kids[i] = renamed(k, old, new)
	}
	return n
}

// TestLoopOwn asks that no two parts of a result share memory.
func TestLoopOwn(t *testing.T) {
	p := program(t, "iter three(n: int): int { yield n; yield n; yield n; } proc main() { }")
	loop := statement(t, "for i in three(5) { write(i); }")
	n, _ := inline.Loop(p, loop, 1)
	want := flat(t, n.Kids[1].Kids[1])
	block := n.Kids[1].Kids[0].Kids[1]
	block.Kids[0].Kids[0].Name = "changed"
	n.Kids[0].Kids[0].Num = 6
	if flat(t, n.Kids[1].Kids[1]) != want || flat(t, loop) != flat(t, statement(t, "for i in three(5) { write(i); }")) {
		t.Errorf("parts of the result share memory: %v", n)
	}
}

// write returns a loop that writes so many numbers.
func writes(t *testing.T, head string, numbers int) api.Node {
	t.Helper()
	n := statement(t, head+" { write(); }")
	write := &n.Kids[len(n.Kids)-1].Kids[0]
	for range numbers {
		write.Kids = append(write.Kids, api.Node{Op: api.Int, Num: 1})
	}
	return n
}

// TestLoopErrors asks for the errors, and for the one that comes first.
func TestLoopErrors(t *testing.T) {
	good := program(t, two+"iter all(a: array(1), n: int): int { } iter objects(c: sync, q: atomic, m: array(2)): int { } proc f(n: int): range { return 1..n; } proc main() { }")
	bad := program(t, two)
	deep := statement(t, "for i in two(5) { }")
	for range 60 {
		deep = api.Node{Op: api.BlockOf, Kids: []api.Node{deep}}
	}
	twoNames := statement(t, "for (i, j) in two(5) { }")
	for i, c := range []struct {
		p    api.Program
		loop api.Node
		want api.Errno
	}{
		{good, statement(t, "for i in two(5) { }"), api.OK},
		{bad, statement(t, "for i in two(5) { }"), check.ErrMain},
		{bad, api.Node{}, check.ErrMain},
		{program(t, "proc main() { x = 1; }"), deep, api.ErrMissing},
		{api.Program{Globals: []api.Node{{}}}, deep, api.ErrForm},
		{good, api.Node{}, api.ErrForm},
		{good, deep, api.ErrDepth},
		{good, writes(t, "for i in two(5)", 4000), api.ErrCount},
		{good, api.Node{Op: api.For, Num: 1, Kids: twoNames.Kids}, api.ErrForm},
		{good, api.Node{Op: api.For, Num: 2, Kids: twoNames.Kids[1:]}, api.ErrForm},
		{good, api.Node{Op: api.For, Num: 3, Kids: append(twoNames.Kids[:1:1], twoNames.Kids...)}, api.ErrForm},
		{good, api.Node{Op: api.For, Num: 0, Kids: twoNames.Kids[2:]}, api.ErrForm},
		{good, statement(t, "write(1);"), api.ErrForm},
		{good, statement(t, "{ for i in two(5) { } }"), api.ErrForm},
		{good, statement(t, "for i in 1..2 { }"), api.ErrForm},
		{good, statement(t, "for i in f(2) { }"), api.ErrForm},
		{good, statement(t, "for i in none(2) { }"), api.ErrForm},
		{good, statement(t, "coforall i in two(2) { }"), api.ErrForm},
		{good, statement(t, "forall i in two(2) { }"), api.ErrForm},
		{good, twoNames, api.OK},
		{bad, twoNames, check.ErrMain},
		{good, statement(t, "for (i, j) in 1..2 { }"), api.ErrForm},
		{good, statement(t, "for (i, j) in f(2) { }"), api.ErrForm},
		{good, statement(t, "for (i, j) in none(2) { }"), api.ErrForm},
		{good, statement(t, "coforall (i, j) in two(2) { }"), api.ErrForm},
		{good, statement(t, "forall (i, j) in two(2) { }"), api.ErrForm},
		{good, statement(t, "for (i, j) in two() { }"), api.ErrCount},
		{good, statement(t, "for (i, j) in all(1) { }"), api.ErrCount},
		{good, statement(t, "for (i, j) in all(1, 2) { }"), api.ErrArgument},
		{good, statement(t, "for (i, j) in all(x, 2) { }"), api.OK},
		{good, api.Node{Op: api.Int, Num: 1}, api.ErrForm},
		{good, statement(t, "for i in two() { }"), api.ErrCount},
		{good, statement(t, "for i in two(1, 2) { }"), api.ErrCount},
		{good, statement(t, "for i in all(1) { }"), api.ErrCount},
		{good, statement(t, "for i in all(1, 2) { }"), api.ErrArgument},
		{good, statement(t, "for i in all(x, 2) { }"), api.OK},
		{good, statement(t, "for i in objects(x, y, z) { }"), api.OK},
		{good, statement(t, "for i in objects(x, y, -z) { }"), api.ErrArgument},
		{good, statement(t, "for i in objects(x, 1 + 1, z) { }"), api.ErrArgument},
		{good, statement(t, "for i in objects(f(1), y, z) { }"), api.ErrArgument},
		{good, statement(t, "for i in objects(x, int, z) { }"), api.ErrArgument},
		{good, statement(t, "for i in two(x + y) { }"), api.OK},
		// 4 nodes for all, and for the two Yields 5 and 7, and the numbers
		{good, writes(t, "for i in two(5)", 1992), api.OK},
		{good, writes(t, "for i in two(5)", 1993), api.ErrLarge},
		{good, writes(t, "for (i, j) in two(5)", 1992), api.OK},
		{good, writes(t, "for (i, j) in two(5)", 1993), api.ErrLarge},
		{good, writes(t, "for i in all(1, 5)", 3990), api.ErrArgument},
		{good, writes(t, "for i in two(5, 5)", 3990), api.ErrCount},
		{good, writes(t, "for i in all(x, 5)", 3990), api.OK},
	} {
		n, e := inline.Loop(c.p, c.loop, 1)
		if e != c.want || e != api.OK && !same(n, api.Node{}) {
			t.Errorf("%d: Loop = %v, want %v", i, e, c.want)
		}
	}
}

// TestLoopLarge asks for results that have just as many nodes as they may.
func TestLoopLarge(t *testing.T) {
	for _, c := range []struct {
		items, head string
		numbers     int
		want        int // nodes; 0 for too many
	}{
		{"iter it(): int { yield 1; yield 2; }", "for i in it()", 1994, 4000},
		{"iter it(): int { yield 1; yield 2; }", "for i in it()", 1995, 0},
		{"iter it(): int { yield 1; yield 2; yield 3; }", "for i in it()", 1327, 3998},
		{"iter it(): int { yield 1; yield 2; yield 3; }", "for i in it()", 1328, 0},
		{"iter it(n: int): int { yield 1; yield 2; }", "for i in it(1)", 1993, 4000},
		{"iter it(n: int): int { yield 1; yield 2; }", "for i in it(1)", 1994, 0},
		{"iter it(n: sync): int { yield 1; yield 2; }", "for i in it(n)", 1994, 4000},
		{"iter it(n: int): int { yield 1; }", "for i in it(-(-1))", 3990, 4000},
		{"iter it(n: int): int { yield 1; }", "for i in it(-(-1))", 3991, 0},
		{"iter it(): int { yield 1; yield 2; }", "for (i, j) in it()", 1994, 4000},
		{"iter it(): int { yield 1; yield 2; }", "for (i, j) in it()", 1995, 0},
	} {
		p := program(t, c.items+" proc main() { }")
		n, e := inline.Loop(p, writes(t, c.head, c.numbers), 1)
		switch {
		case c.want == 0 && (e != api.ErrLarge || !same(n, api.Node{})):
			t.Errorf("%s %s with %d: %v", c.items, c.head, c.numbers, e)
		case c.want > 0 && (e != api.OK || count(n) != c.want):
			t.Errorf("%s %s with %d: %v with %d nodes, want %d", c.items, c.head, c.numbers, e, count(n), c.want)
		}
	}
}

func count(n api.Node) int {
	all := 1
	for _, k := range n.Kids {
		all += count(k)
	}
	return all
}
