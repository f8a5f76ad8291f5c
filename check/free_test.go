package check_test

import (
	"slices"
	"strings"
	"testing"

	"raddle/api"
	"raddle/check"
	"raddle/syntax"
)

// TestFree asks for the free names of statements, in the order of their first uses.
func TestFree(t *testing.T) {
	for _, c := range []struct{ text, locals, want string }{
		{"x = y + z;", "z y x w", "x y z"},
		{"x = x + x;", "x x", "x"},
		{"x[y] = z;", "x y z", "x y z"},
		{"{ x = 1; var x = y; x = z; }", "x y z", "x y z"},
		{"{ var x = x; x = 1; }", "x", "x"},
		{"{ var x = 1; x = 1; { x = 2; } }", "x", ""},
		{"{ { var x = 1; } x = 1; }", "x", "x"},
		{"{ if x { var y = 1; y = z; } else { y = 2; } }", "x y z", "x z y"},
		{"for i in i..n { write(i, x); }", "i n x", "i n x"},
		{"for i in 1..n { write(i); }", "i n", "n"},
		{"for (i, j) in d { write(i, j, k); }", "i j k d", "d k"},
		{"coforall i in 1..2 { begin { i = x; } }", "i x", "x"},
		{"forall i in 1..2 with (+ reduce s, max reduce i) { write(t); }", "i s t", "t s i"},
		{"f(g(x), int, h, h.y);", "f g h x y", "x h"},
		{"write(if a then b else c.size, \"d\");", "a b c d", "a b c"},
		{"var a: [d] int;", "a d", "d"},
		{"while a { a = 1; }", "", ""},
		{"cobegin { { var a = 1; } { a = 2; } }", "a", "a"},
		{"{ for i in 1..2 { var x = 1; } x = i; }", "i x", "x i"},
		{"{ x += 1; c.writeEF(y); }", "c y x", "x c y"},
	} {
		n := program(t, "proc main() { "+c.text+" }").Procs[0].Body[0]
		if got := check.Free(n, strings.Fields(c.locals)); !slices.Equal(got, strings.Fields(c.want)) {
			t.Errorf("Free(%s, %s) = %v, want %s", c.text, c.locals, got, c.want)
		}
	}
}

// TestFreeRaw asks for the free names of trees of no right shape.
func TestFreeRaw(t *testing.T) {
	x, y := api.Node{Op: api.Name, Name: "x"}, api.Node{Op: api.Name, Name: "y"}
	declares := api.Node{Op: api.Var, Name: "x"}
	for i, c := range []struct {
		n    api.Node
		want []string
	}{
		{api.Node{}, nil},
		{api.Node{Op: 99, Name: "x", Kids: []api.Node{y, x}}, []string{"y", "x"}},
		{api.Node{Op: api.Name, Name: "x", Kids: []api.Node{y}}, []string{"x", "y"}},
		{api.Node{Op: 99, Kids: []api.Node{declares, x, y}}, []string{"y"}},
		{api.Node{Op: 99, Kids: []api.Node{x, declares}}, []string{"x"}},
		{api.Node{Op: 99, Kids: []api.Node{{Op: 99, Kids: []api.Node{declares}}, x}}, []string{"x"}},
		{api.Node{Op: api.For, Num: 3, Kids: []api.Node{x, x, x, y, x}}, []string{"x", "y"}},
		{api.Node{Op: api.For, Num: -1, Kids: []api.Node{x, y}}, []string{"x", "y"}},
		{api.Node{Op: api.For, Num: 1, Kids: []api.Node{x, y}}, []string{"x", "y"}},
		{api.Node{Op: api.For, Num: 0, Kids: []api.Node{y, x}}, []string{"y", "x"}},
		{api.Node{Op: api.For, Num: 1, Kids: []api.Node{x, y, x}}, []string{"y"}},
		{api.Node{Op: api.For, Num: 1, Kids: []api.Node{x, y, x, x}}, []string{"y", "x"}},
		{api.Node{Op: api.While, Num: 1, Kids: []api.Node{x, y, x}}, []string{"x", "y"}},
		{chain(100000, x), []string{"x"}},
	} {
		if got := check.Free(c.n, []string{"x", "y"}); !slices.Equal(got, c.want) {
			t.Errorf("%d: Free = %v, want %v", i, got, c.want)
		}
	}
	if got := check.Free(api.Node{Op: api.Name}, []string{""}); !slices.Equal(got, []string{""}) {
		t.Errorf("Free of the empty name = %q", got)
	}
}

// TestFreeMissing asks that the free names of random statements are those whose missing is an error.
func TestFreeMissing(t *testing.T) {
	r := newTrees(17)
	names := []string{"v", "w", "i", "j"}
	found := 0
	for range 4000 {
		p := r.program(1)
		last := len(p.Procs) - 1
		body := p.Procs[last].Body
		free := check.Free(api.Node{Op: api.BlockOf, Kids: body}, names)
		with := func(names []string) api.Errno {
			q := api.Program{Globals: p.Globals, Procs: slices.Clone(p.Procs)}
			q.Procs[last].Formals = slices.Clone(q.Procs[last].Formals)
			for _, n := range names {
				q.Procs[last].Formals = append(q.Procs[last].Formals, api.Formal{Intent: "in", Name: n, Type: kind("int")})
			}
			_, e := check.Program(q)
			return e
		}
		if with(names) != api.OK {
			continue
		}
		for _, n := range names {
			others := slices.DeleteFunc(slices.Clone(names), func(x string) bool { return x == n })
			want := api.OK
			if slices.Contains(free, n) {
				want, found = api.ErrMissing, found+1
			}
			if e := with(others); e != want {
				text, _ := syntax.Statement(api.Node{Op: api.BlockOf, Kids: body})
				t.Fatalf("%s: without %s: %v, want %v", text, n, e, want)
			}
		}
	}
	if found < 300 {
		t.Errorf("only %d free names", found)
	}
}
