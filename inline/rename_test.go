package inline_test

import (
	"math/rand"
	"reflect"
	"slices"
	"strings"
	"testing"

	"raddle/api"
	"raddle/inline"
	"raddle/syntax"
)

// program returns the program of a module with some items.
func program(t *testing.T, items string) api.Program {
	t.Helper()
	p, at, e := syntax.Program("module M { " + items + " }")
	if e != api.OK {
		t.Fatalf("%s: %v at %d", items, e, at)
	}
	return p
}

// statement returns the first statement of a text.
func statement(t *testing.T, text string) api.Node {
	t.Helper()
	return program(t, "proc main() { "+text+" }").Procs[0].Body[0]
}

// flat writes a statement in one line.
func flat(t *testing.T, n api.Node) string {
	t.Helper()
	s, e := syntax.Statement(n)
	if e != api.OK {
		t.Fatalf("Statement(%v) = %v", n, e)
	}
	return strings.Join(strings.Fields(s), " ")
}

// TestRename asks for the names of statements.
func TestRename(t *testing.T) {
	for _, c := range []struct{ text, want string }{
		{"write(x);", "write(x);"},
		{"var x = x;", "var x_s = x;"},
		{"{ x = 1; var x = x; x = x + y; x += 1; }", "{ x = 1; var x_s = x; x_s = x_s + y; x_s += 1; }"},
		{"{ { var x = 1; x = 2; } x = 3; }", "{ { var x_s = 1; x_s = 2; } x = 3; }"},
		{"{ var x = 1; { x = 2; var x = x; x = 3; } x = 4; }", "{ var x_s = 1; { x_s = 2; var x_s = x_s; x_s = 3; } x_s = 4; }"},
		{"for i in 1..i { i = x; }", "for i_s in 1..i { i_s = x; }"},
		{"{ for i in i..2 { write(i); } write(i); }", "{ for i_s in i..2 { write(i_s); } write(i); }"},
		{"for (i, j) in d { write(i, j, d); for j in j..i { write(j); } }", "for (i_s, j_s) in d { write(i_s, j_s, d); for j_s in j_s..i_s { write(j_s); } }"},
		{"coforall i in r { begin { write(i); var r = i; write(r); } write(r); }", "coforall i_s in r { begin { write(i_s); var r_s = i_s; write(r_s); } write(r); }"},
		{"forall i in r with (+ reduce s, max reduce i) { s += i; }", "forall i_s in r with (+ reduce s, max reduce i) { s += i_s; }"},
		{"{ var s = 0; forall i in r with (+ reduce s) { s += i; } }", "{ var s_s = 0; forall i_s in r with (+ reduce s_s) { s_s += i_s; } }"},
		{"{ var a: [a] int; a[a.size] = + reduce a; f(a, x.f); a.read(); }", "{ var a_s: [a] int; a_s[a_s.size] = + reduce a_s; f(a_s, x.f); a_s.read(); }"},
		{"{ var f = 1; f(f, int); }", "{ var f_s = 1; f(f_s, int); }"},
		{"{ var t = 1; var u: t; write(\"t\", t); }", "{ var t_s = 1; var u_s: t; write(\"t\", t_s); }"},
		{"if c { var c = c; write(c); } else { write(c); }", "if c { var c_s = c; write(c_s); } else { write(c); }"},
		{"while c { var c = false; c = c; }", "while c { var c_s = false; c_s = c_s; }"},
		{"cobegin { { var a = 1; write(a); } { write(a); } }", "cobegin { { var a_s = 1; write(a_s); } { write(a); } }"},
		{"{ const x = 1; sync { on x { assert(x == x); return x; } } yield x; }", "{ const x_s = 1; sync { on x_s { assert(x_s == x_s); return x_s; } } yield x_s; }"},
		{"{ var x: int; x = if x > 1 then -x else ({1..x, x..2 by x # x}).size; }", "{ var x_s: int; x_s = if x_s > 1 then -x_s else ({1..x_s, x_s..2 by x_s # x_s}).size; }"},
	} {
		n := statement(t, c.text)
		if got := flat(t, inline.Rename(n, "_s")); got != c.want {
			t.Errorf("Rename(%s) = %s, want %s", c.text, got, c.want)
		}
		if got := flat(t, n); got != flat(t, statement(t, c.text)) {
			t.Errorf("%s was changed to %s", c.text, got)
		}
	}
	n := statement(t, "{ var x = 1; for i in 1..x { write(i); } }")
	if got := inline.Rename(n, ""); !same(got, n) {
		t.Errorf("Rename without a suffix = %v", got)
	}
	if got := inline.Rename(n, " \x00é").Kids[0].Name; got != "x \x00é" {
		t.Errorf("Rename with any suffix = %q", got)
	}
}

// same reports whether trees are equal, where an empty list is none.
func same(a, b api.Node) bool {
	return a.Op == b.Op && a.Name == b.Name && a.Num == b.Num && slices.EqualFunc(a.Kids, b.Kids, same)
}

// raw makes trees of any shape.
type raw struct{ *rand.Rand }

func (r raw) node(depth int) api.Node {
	ops := []int{api.Name, api.Name, api.Name, api.Var, api.Var, api.BlockOf, api.For, api.Forall, api.Coforall, api.Assign, api.Intent, api.Call, api.Yield, 0, -3, 99}
	n := api.Node{Op: ops[r.Intn(len(ops))], Name: string(rune('a' + r.Intn(3))), Num: r.Intn(5) - 1}
	if depth == 0 || n.Op == api.Name && r.Intn(8) > 0 {
		return n
	}
	for range r.Intn(6) {
		n.Kids = append(n.Kids, r.node(depth-1))
	}
	return n
}

// step is a node on the way to another one, and the index of the Kid that follows.
type step struct {
	n   api.Node
	kid int
}

func isLoop(n api.Node) bool {
	return (n.Op == api.For || n.Op == api.Forall || n.Op == api.Coforall) && n.Num >= 0 && n.Num <= 2 && len(n.Kids) >= n.Num+2
}

// isDeclared reports whether a name is declared on the way to it.
func isDeclared(name string, way []step) bool {
	for _, s := range way {
		for i, k := range s.n.Kids {
			isName := isLoop(s.n) && i < s.n.Num && k.Op == api.Name
			if k.Name == name && (k.Op == api.Var && i < s.kid || isName && s.kid == s.n.Num+1) {
				return true
			}
		}
	}
	return false
}

// oracle is Rename, said by the ways to nodes.
func oracle(n api.Node, way []step) api.Node {
	m := n
	m.Kids = nil
	last := step{}
	if len(way) > 0 {
		last = way[len(way)-1]
	}
	declares := n.Op == api.Var || n.Op == api.Name && isLoop(last.n) && last.kid < last.n.Num
	if declares || n.Op == api.Name && isDeclared(n.Name, way) {
		m.Name += "_s"
	}
	for i, k := range n.Kids {
		m.Kids = append(m.Kids, oracle(k, append(slices.Clip(way), step{n, i})))
	}
	return m
}

func copied(n api.Node) api.Node {
	kids := n.Kids
	n.Kids = nil
	for _, k := range kids {
		n.Kids = append(n.Kids, copied(k))
	}
	return n
}

// shape is a tree without the names.
func shape(n api.Node) api.Node {
	n = copied(n)
	n.Name = ""
	for i, k := range n.Kids {
		n.Kids[i] = shape(k)
	}
	return n
}

func declaresNothing(n api.Node) bool {
	return n.Op != api.Var && !(isLoop(n) && n.Num > 0) && !slices.ContainsFunc(n.Kids, func(k api.Node) bool { return !declaresNothing(k) })
}

// TestRenameRaw asks P16.3, and for the names, of trees of any shape.
func TestRenameRaw(t *testing.T) {
	r := raw{rand.New(rand.NewSource(16))}
	nothing := 0
	for range 30000 {
		n := r.node(4)
		given := copied(n)
		got := inline.Rename(n, "_s")
		if want := oracle(n, nil); !same(got, want) {
			t.Fatalf("Rename(%v) = %v, want %v", n, got, want)
		}
		if !reflect.DeepEqual(n, given) {
			t.Fatalf("%v was changed to %v", given, n)
		}
		if !same(shape(got), shape(n)) {
			t.Fatalf("Rename(%v) = %v", n, got)
		}
		if declaresNothing(n) {
			nothing++
			if !same(got, n) {
				t.Fatalf("Rename(%v) = %v", n, got)
			}
		}
	}
	if nothing < 1000 {
		t.Errorf("only %d trees that declare nothing", nothing)
	}
}

// TestRenameLarge asks for trees beyond the limits of programs.
func TestRenameLarge(t *testing.T) {
	deep := api.Node{Op: api.Name, Name: "x"}
	for range 60000 {
		deep = api.Node{Op: api.BlockOf, Kids: []api.Node{{Op: api.Var, Name: "y"}, deep}}
	}
	got := inline.Rename(api.Node{Kids: []api.Node{{Op: api.Var, Name: "x"}, deep}}, "_s")
	for len(got.Kids) > 0 {
		got = got.Kids[1]
	}
	if got.Name != "x_s" {
		t.Errorf("Rename of a deep tree: %v", got)
	}
	wide := api.Node{Op: api.BlockOf}
	for i := range 100000 {
		name := strings.Repeat("n", i%100) + string(rune('a'+i%26))
		wide.Kids = append(wide.Kids, api.Node{Op: api.Var, Name: name}, api.Node{Op: api.Name, Name: name})
	}
	got = inline.Rename(wide, "_s")
	if last := got.Kids[len(got.Kids)-1]; len(got.Kids) != len(wide.Kids) || !strings.HasSuffix(last.Name, "_s") {
		t.Errorf("Rename of a wide tree: %v", last)
	}
}
