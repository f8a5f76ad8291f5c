package generic_test

import (
	"math"
	"math/rand"
	"strings"
	"testing"

	"raddle/api"
	"raddle/check"
	"raddle/generic"
	"raddle/param"
)

// raw makes trees and programs of any form, which are often nearly right.
type raw struct{ *rand.Rand }

func (r raw) name() string {
	l := []string{"", "x", "f", "t", "?t", "int", "bool", "void", "range", "main", "+", "-", "&&", "=", "size", "read", "block", "?", "a b", strings.Repeat("n", 41)}
	return l[r.Intn(len(l))]
}

func (r raw) node(depth int) api.Node {
	n := api.Node{Op: r.Intn(70) - 1, Name: r.name(), Num: []int{0, 0, 0, 1, 2, 3, 10, 15, -1, math.MinInt}[r.Intn(10)]}
	if r.Intn(3) > 0 {
		n = api.Node{Op: []int{api.Name, api.Int, api.Call, api.Binary, api.Type, api.Var, api.BlockOf, api.For}[r.Intn(8)], Name: []string{"x", "f", "+", "t"}[r.Intn(4)], Num: n.Num}
	}
	for range r.Intn(4) {
		if depth > 0 {
			n.Kids = append(n.Kids, r.node(depth-1))
		}
	}
	return n
}

func (r raw) nodes() []api.Node {
	var l []api.Node
	for range r.Intn(3) {
		l = append(l, r.node(3))
	}
	return l
}

func (r raw) program() api.Program {
	p := api.Program{Globals: r.nodes()}
	for range r.Intn(4) {
		f := api.Proc{Name: r.name(), Iter: r.Intn(2) == 0, Result: r.node(0), Where: r.nodes(), Body: r.nodes()}
		for range r.Intn(3) {
			f.Formals = append(f.Formals, api.Formal{Intent: []string{"", "in", "param", "type", "ref"}[r.Intn(5)], Name: r.name(), Type: r.node(0)})
		}
		p.Procs = append(p.Procs, f)
	}
	return p
}

// TestRaw asks that no function of this stage's layers for programs panics, whatever it is given.
func TestRaw(t *testing.T) {
	r := raw{rand.New(rand.NewSource(19))}
	for range 20000 {
		p, n, value := r.program(), r.node(5), r.node(1)
		locals := []check.Typed{{Name: r.name(), Type: r.name()}, {Name: "x", Type: r.name()}}
		consts := []param.Const{{Name: r.name(), Value: value}, {Name: "x", Value: value}}
		arguments := []generic.Argument{{Type: r.name(), Value: r.nodes(), IsType: r.Intn(2) == 0}}
		check.TypeOf(p, n, locals)
		check.Program(p)
		check.Core(p)
		check.Free(n, []string{"x", "f"})
		param.Eval(n, consts)
		param.Known(n, consts)
		param.Put(n, consts)
		param.Expr(n)
		param.Block([]api.Node{n}, consts)
		param.Fold(p)
		form := check.Form(p)
		_, e1 := generic.Candidates(p, "f", arguments)
		_, e2 := generic.Choose(p, "f", arguments)
		_, e3 := generic.Name(p, 0, arguments)
		_, e4 := generic.Program(p)
		if form != api.OK && (e1 != form || e2 != form || e3 != form || e4 != form) {
			t.Fatalf("%v: %v, %v, %v, %v, want %v", p, e1, e2, e3, e4, form)
		}
	}
}
