package syntax_test

import (
	"math"
	"reflect"
	"slices"
	"strings"
	"testing"

	"raddle/api"
	"raddle/syntax"
)

func plainSize(n api.Node) (nodes, depth int) {
	nodes, depth = 1, 1
	for _, k := range n.Kids {
		below, d := plainSize(k)
		nodes, depth = nodes+below, max(depth, d+1)
	}
	return nodes, depth
}

func TestSizeAndNodes(t *testing.T) {
	r := newRandom(11)
	for range 1000 {
		n := r.expr(5)
		if r.Intn(2) == 0 {
			n = r.statement(4)
		}
		if r.Intn(2) == 0 {
			r.spoil(&n)
		}
		nodes, depth := syntax.Size(n)
		if wantNodes, wantDepth := plainSize(n); nodes != wantNodes || depth != wantDepth {
			t.Fatal(n, nodes, depth, wantNodes, wantDepth)
		}
		l := r.modules()
		nodes, depth = syntax.Nodes(l)
		if wantNodes, wantDepth := plainNodes(l); nodes != wantNodes || depth != wantDepth {
			t.Fatal(l, nodes, depth, wantNodes, wantDepth)
		}
	}
	for _, l := range [][]syntax.Module{nil, {}, {{}}, {{Name: "M", Uses: []syntax.Use{{}}}, {}}} {
		if nodes, depth := syntax.Nodes(l); nodes != 0 || depth != 0 {
			t.Error(nodes, depth)
		}
	}
	if nodes, depth := syntax.Size(api.Node{}); nodes != 1 || depth != 1 {
		t.Error(nodes, depth)
	}
}

func plainNodes(l []syntax.Module) (nodes, depth int) {
	add := func(n api.Node) {
		below, d := plainSize(n)
		nodes, depth = nodes+below, max(depth, d)
	}
	for _, m := range l {
		for _, g := range m.Globals {
			add(g.Var)
		}
		for _, p := range m.Procs {
			for _, f := range p.Formals {
				if f.Intent != "type" {
					add(f.Type)
				}
			}
			for _, n := range append(append([]api.Node{p.Result}, p.Where...), p.Body...) {
				add(n)
			}
		}
	}
	return nodes, depth
}

func TestNodesOfEachPart(t *testing.T) {
	x := chain(5)
	for i, m := range []syntax.Module{
		{Globals: []syntax.Global{{Var: x}}},
		{Procs: []api.Proc{{Result: x}}},
		{Procs: []api.Proc{{Where: []api.Node{x, {}}}}},
		{Procs: []api.Proc{{Body: []api.Node{{}, x}}}},
		{Procs: []api.Proc{{Formals: []api.Formal{{Type: x}}}}},
		{Procs: []api.Proc{{Formals: []api.Formal{{Intent: "type", Type: x}}}}},
	} {
		want := [][2]int{{5, 5}, {5, 5}, {7, 5}, {7, 5}, {6, 5}, {1, 1}}[i]
		if nodes, depth := syntax.Nodes([]syntax.Module{m}); nodes != want[0] || depth != want[1] {
			t.Error(i, nodes, depth)
		}
	}
}

// shared is a tree of 2 to the n, minus 1, nodes in the memory of n.
func shared(n int) api.Node {
	x := api.Node{Op: api.Int, Num: 1}
	for range n - 1 {
		x = api.Node{Op: api.Binary, Name: "+", Kids: []api.Node{x, x}}
	}
	return x
}

// endless is a tree that stands in itself.
func endless(kids int) api.Node {
	l := make([]api.Node, kids)
	for i := range l {
		l[i] = api.Node{Op: api.DomainOf, Kids: l}
	}
	return l[0]
}

func TestLargeTrees(t *testing.T) {
	for n, want := range map[int]int{10: 1<<10 - 1, 16: 1<<16 - 1, 17: 1<<17 - 1, 31: 1<<31 - 1, 62: 1<<62 - 1} {
		if nodes, depth := syntax.Size(shared(n)); nodes != want || depth != n {
			t.Error(n, nodes, depth)
		}
	}
	if nodes, depth := syntax.Size(chain(1 << 16)); nodes != 1<<16 || depth != 1<<16 {
		t.Error(nodes, depth)
	}
	if nodes, depth := syntax.Size(wide(1 << 18)); nodes != 1<<18 || depth != 2 {
		t.Error(nodes, depth)
	}
	l := []syntax.Module{{Globals: []syntax.Global{{Var: shared(20)}, {Var: shared(21)}}, Procs: []api.Proc{{}}}}
	if nodes, depth := syntax.Nodes(l); nodes != 1<<20+1<<21-1 || depth != 21 {
		t.Error(nodes, depth)
	}
}

// TestEndlessTrees only has to end: such a tree has too many nodes.
func TestEndlessTrees(t *testing.T) {
	for _, n := range []api.Node{endless(1), endless(2), shared(100)} {
		syntax.Size(n)
		m := syntax.Module{Name: "M", Globals: []syntax.Global{{Var: n}}}
		syntax.Nodes([]syntax.Module{m, m})
		if e := syntax.Form([]syntax.Module{m}); e != api.ErrCount {
			t.Error(e)
		}
		if s, e := syntax.Expr(n); s != "" || e != api.ErrCount {
			t.Error(s, e)
		}
		if s, e := syntax.Statement(n); s != "" || e != api.ErrCount {
			t.Error(s, e)
		}
		if !syntax.Same(n, n) || !syntax.Equal([]syntax.Module{m}, []syntax.Module{m}) || syntax.Same(n, api.Node{}) {
			t.Error("a tree is not the same as itself")
		}
	}
	if !syntax.Same(shared(100), shared(100)) || !syntax.Same(endless(2), endless(2)) || syntax.Same(shared(100), shared(99)) || syntax.Same(endless(2), endless(1)) {
		t.Error("trees that share memory are compared wrongly")
	}
	other := shared(100)
	for x := &other; len(x.Kids) > 0; x = &x.Kids[1] {
		x.Kids = slices.Clone(x.Kids)
		if len(x.Kids[1].Kids) == 0 {
			x.Kids[1].Num = 2
		}
	}
	if syntax.Same(shared(100), other) || syntax.Same(other, shared(100)) || !syntax.Same(other, other) {
		t.Error("a difference far below is not seen")
	}
	formal := syntax.Module{Name: "M", Procs: []api.Proc{{Name: "f", Formals: []api.Formal{{Intent: "type", Name: "t", Type: endless(1)}}, Result: api.Node{Op: api.Type, Name: "void"}}}}
	if e := syntax.Form([]syntax.Module{formal}); e != api.ErrForm {
		t.Error(e)
	}
}

// TestSame changes one field of a node.
func TestSame(t *testing.T) {
	r := newRandom(12)
	for range 1000 {
		n := r.statement(3)
		other := cloneNode(n)
		if !syntax.Same(n, other) {
			t.Fatal(n)
		}
		r.spoil(&other)
		if got, want := syntax.Same(n, other), same(n, other); got != want || syntax.Same(other, n) != want {
			t.Fatal(n, other, got)
		}
	}
	if !syntax.Same(api.Node{Op: 1, Kids: []api.Node{}}, api.Node{Op: 1}) {
		t.Error("nil and empty differ")
	}
}

func same(a, b api.Node) bool {
	return a.Op == b.Op && a.Name == b.Name && a.Num == b.Num && slices.EqualFunc(a.Kids, b.Kids, same)
}

// TestEqual changes each field of modules by itself.
func TestEqual(t *testing.T) {
	l, _, e := syntax.Read(canonical)
	if e != api.OK || !syntax.Equal(l, cloneModules(l)) || syntax.Equal(l, l[:1]) || syntax.Equal(nil, l) || !syntax.Equal(nil, []syntax.Module{}) {
		t.Fatal(e)
	}
	if syntax.Equal(l, []syntax.Module{l[1], l[0]}) {
		t.Error("the order plays no part")
	}
	changes := 0
	for _, p := range fields(reflect.ValueOf(&l).Elem()) {
		before := reflect.New(p.Type()).Elem()
		before.Set(p)
		other := cloneModules(l)
		switch p.Kind() {
		case reflect.Int:
			p.SetInt(p.Int() + 1)
		case reflect.String:
			p.SetString(p.String() + "x")
		case reflect.Bool:
			p.SetBool(!p.Bool())
		case reflect.Slice:
			p.Set(reflect.Append(p, reflect.Zero(p.Type().Elem())))
		}
		if syntax.Equal(l, other) || syntax.Equal(other, l) {
			t.Fatal("a change is not seen", p.Kind(), p)
		}
		p.Set(before)
		if !syntax.Equal(l, other) {
			t.Fatal("not as before")
		}
		changes++
	}
	if changes < 900 {
		t.Error(changes)
	}
	if !syntax.Equal([]syntax.Module{{Uses: []syntax.Use{{Names: []string{}}}, Globals: []syntax.Global{}}}, []syntax.Module{{Uses: []syntax.Use{{}}, Procs: []api.Proc{}}}) {
		t.Error("nil and empty differ")
	}
}

// fields returns all numbers, texts, truths and lists in a value.
func fields(v reflect.Value) []reflect.Value {
	var l []reflect.Value
	switch v.Kind() {
	case reflect.Struct:
		for i := range v.NumField() {
			l = append(l, fields(v.Field(i))...)
		}
		return l
	case reflect.Slice:
		for i := range v.Len() {
			l = append(l, fields(v.Index(i))...)
		}
	}
	return append(l, v)
}

// TestArgumentsStay writes and compares modules whose lists have something behind their ends.
func TestArgumentsStay(t *testing.T) {
	r := newRandom(13)
	for range 100 {
		l := r.modules()
		for i := range l {
			l[i].Procs = append(l[i].Procs, api.Proc{Name: "behind"})[:len(l[i].Procs)]
			for j := range l[i].Procs {
				p := &l[i].Procs[j]
				p.Body = append(p.Body, api.Node{Op: 7})[:len(p.Body)]
				p.Where = append(p.Where, api.Node{Op: 7})[:len(p.Where)]
			}
		}
		before := cloneModules(l)
		syntax.Form(l)
		syntax.Write(l)
		syntax.Nodes(l)
		syntax.Equal(l, before)
		if !reflect.DeepEqual(l, before) {
			t.Fatal("changed")
		}
		for i := range l {
			if l[i].Procs[:len(l[i].Procs)+1][len(l[i].Procs)].Name != "behind" {
				t.Fatal("changed behind the end")
			}
			for _, p := range l[i].Procs {
				if p.Body[:len(p.Body)+1][len(p.Body)].Op != 7 || p.Where[:len(p.Where)+1][len(p.Where)].Op != 7 {
					t.Fatal("changed behind the end")
				}
			}
		}
	}
}

func TestProgram(t *testing.T) {
	text := "module M { private proc f() { } var x = 1; proc main() { f(); } private const y: bool = true; iter g(): int { yield 1; } }"
	p, at, e := syntax.Program(text)
	l, _, _ := syntax.Read(text)
	if e != api.OK || at != 0 || len(p.Globals) != 2 || !same(p.Globals[0], l[0].Globals[0].Var) || !same(p.Globals[1], l[0].Globals[1].Var) || !reflect.DeepEqual(p.Procs, l[0].Procs) {
		t.Error(p, at, e)
	}
	if p, at, e := syntax.Program("module M {}"); len(p.Globals)+len(p.Procs) != 0 || at != 0 || e != api.OK {
		t.Error(p, at, e)
	}
	for _, c := range []struct {
		text string
		at   int
		e    api.Errno
	}{
		{"", 0, api.ErrArgument}, {"module M {} module N {}", 0, api.ErrArgument}, {"module M { var x = 1; use N; }", 0, api.ErrArgument}, {"module M { import N as P; }", 0, api.ErrArgument}, {"module M { use N; ", 18, syntax.ErrEnd}, {"module M { } x", 13, syntax.ErrToken}, {"module M { } module N { var x; }", 29, syntax.ErrToken},
		{"module M { use N; var x = f(" + strings.Repeat("1, ", 4000) + "1); }", 0, api.ErrCount}, {"module M { use N; var x = " + strings.Repeat("!", 60) + "1; }", 0, api.ErrDepth},
	} {
		if p, at, e := syntax.Program(c.text); len(p.Globals)+len(p.Procs) != 0 || at != c.at || e != c.e {
			t.Errorf("%.30s: %d %d", c.text, at, e)
		}
	}
}

// TestErrorsOfTokens has the errors of the layer below, ahead of those of this one.
func TestErrorsOfTokens(t *testing.T) {
	for _, c := range []struct {
		text string
		at   int
		e    api.Errno
	}{
		{"x @", 2, 110}, {"x \"", 2, 111}, {"} /*", 2, 112}, {"} 01", 2, 113}, {"} " + strings.Repeat("n", 41), 2, 114}, {strings.Repeat(" ", api.MaxSource) + "@", 0, api.ErrLarge},
	} {
		if l, at, e := syntax.Read(c.text); l != nil || at != c.at || e != c.e {
			t.Error(l, at, e)
		}
		if n, at, e := syntax.ReadExpr(c.text); n.Op != 0 || at != c.at || e != c.e {
			t.Error(n, at, e)
		}
		if p, at, e := syntax.Program(c.text); p.Procs != nil || at != c.at || e != c.e {
			t.Error(p, at, e)
		}
	}
	if l, at, e := syntax.Read(" // \n"); l != nil || at != 0 || e != api.OK {
		t.Error(l, at, e)
	}
	if n, at, e := syntax.ReadExpr(" "); n.Op != 0 || at != 1 || e != syntax.ErrEnd {
		t.Error(n, at, e)
	}
	if n, at, e := syntax.ReadExpr("1 + 2 3"); n.Op != 0 || at != 6 || e != syntax.ErrToken {
		t.Error(n, at, e)
	}
	if n, at, e := syntax.ReadExpr("-9223372036854775807"); n.Num != -math.MaxInt || at != 0 || e != api.OK {
		t.Error(n, at, e)
	}
}
