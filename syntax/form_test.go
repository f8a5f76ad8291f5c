package syntax_test

import (
	"math"
	"slices"
	"strings"
	"testing"

	"raddle/api"
	"raddle/syntax"
)

// spoil changes something of a node below (or of) n.
func (r random) spoil(n *api.Node) {
	if len(n.Kids) > 0 && r.Intn(4) > 0 {
		r.spoil(&n.Kids[r.Intn(len(n.Kids))])
		return
	}
	switch r.Intn(7) {
	case 0:
		n.Op = r.Intn(71) - 1
	case 1:
		n.Name = r.wrongName()
	case 2:
		n.Num = []int{0, 1, 2, 3, 4, 5, 6, 7, 8, 10, 11, 12, 14, 15, 16, 18, -1, math.MinInt, math.MaxInt}[r.Intn(19)]
	case 3:
		n.Kids = append(n.Kids, r.anyNode())
	case 4:
		if len(n.Kids) > 0 {
			n.Kids = slices.Delete(n.Kids, 0, 1)
		}
	case 5:
		if len(n.Kids) > 0 {
			n.Kids[r.Intn(len(n.Kids))] = r.anyNode()
		}
	case 6:
		*n = r.anyNode()
	}
}

func (r random) wrongName() string {
	l := []string{"", " ", "a", "a b", "a ", "int", "domain", "void", "domain1", "size", "P.x", "P.size", "P.read", "P.write", "P.x.y", ".x", "P.", "P.int", "1", "a1", "?t", "??t", "?", "?int", "-", "!", "+", "&&", "min", "..", "=", "+=", "/=", "reduce", "block", "blockcyclic", "hashed", "read", "isFull", "low", "in", "type", "ref", "a, b", "1a", "//", strings.Repeat("n", 40), strings.Repeat("n", 41)}
	return l[r.Intn(len(l))]
}

func (r random) anyNode() api.Node {
	switch r.Intn(8) {
	case 0:
		return api.Node{Op: api.Str, Name: "s"}
	case 1:
		return r.typeOf()
	case 2:
		return r.block(1)
	case 3:
		return r.statement(1)
	case 4:
		return api.Node{Op: api.Intent, Name: "+", Kids: []api.Node{r.plain()}}
	case 5:
		return api.Node{}
	}
	return r.expr(2)
}

// spoilModule changes something of a module.
func (r random) spoilModule(m *syntax.Module) {
	switch k := r.Intn(14); {
	case k == 0:
		m.Name = r.wrongName()
	case k == 1 && len(m.Uses) > 0:
		u := &m.Uses[r.Intn(len(m.Uses))]
		switch r.Intn(4) {
		case 0:
			u.Kind = r.Intn(6) - 1
		case 1:
			u.Module = r.wrongName()
		case 2:
			u.As = r.wrongName()
		case 3:
			u.Names = append(u.Names, r.wrongName())
		}
	case k <= 5 && len(m.Globals) > 0:
		r.spoil(&m.Globals[r.Intn(len(m.Globals))].Var)
	case len(m.Procs) > 0:
		r.spoilProc(&m.Procs[r.Intn(len(m.Procs))])
	}
}

func (r random) spoilProc(p *api.Proc) {
	switch k := r.Intn(12); {
	case k == 0:
		p.Name = r.wrongName()
	case k == 1:
		r.spoil(&p.Result)
	case k == 2:
		p.Where = append(p.Where, r.anyNode())
	case k <= 6 && len(p.Formals) > 0:
		f := &p.Formals[r.Intn(len(p.Formals))]
		switch r.Intn(3) {
		case 0:
			f.Intent = []string{"", "in", "const", "param", "type", "ref", "x", "var"}[r.Intn(8)]
		case 1:
			f.Name = r.wrongName()
		case 2:
			r.spoil(&f.Type)
		}
	case len(p.Body) > 0:
		r.spoil(&p.Body[r.Intn(len(p.Body))])
	}
}

// TestFormRandom spoils modules: one is right exactly if a text with more brackets than needed is read as it.
func TestFormRandom(t *testing.T) {
	r := newRandom(8)
	right, wrong := 0, 0
	for range 8000 {
		m := r.module()
		r.spoilModule(&m)
		l := []syntax.Module{m}
		text := r.looseText(l)
		back, _, e := syntax.Read(text)
		want := api.ErrForm
		if e == api.OK && syntax.Equal(back, l) {
			want = api.OK
			right++
		} else {
			wrong++
		}
		if got := syntax.Form(l); got != want {
			t.Fatalf("%v\n%s\n%v\n%d, want %d", l, text, back, got, want)
		}
		if text, e := syntax.Write(l); e != want || (text == "") != (e != api.OK) {
			t.Fatal(text, e)
		}
	}
	if right < 800 || wrong < 800 {
		t.Error(right, wrong)
	}
}

// TestFormOfNodesRandom does the same with single nodes.
func TestFormOfNodesRandom(t *testing.T) {
	r := newRandom(9)
	for range 4000 {
		n := r.expr(3)
		if r.Intn(3) > 0 {
			r.spoil(&n)
		}
		want := api.ErrForm
		if back, _, e := syntax.ReadExpr(r.looseExpr(n)); e == api.OK && syntax.Same(back, n) {
			want = api.OK
		}
		if text, e := syntax.Expr(n); e != want || (text == "") != (e != api.OK) {
			t.Fatal(n, text, e, want)
		}
		s := r.statement(2)
		if r.Intn(3) > 0 {
			r.spoil(&s)
		}
		want = api.ErrForm
		if back, _, e := syntax.Read(r.looseText([]syntax.Module{{Name: "M", Procs: []api.Proc{{Name: "f", Result: api.Node{Op: api.Type, Name: "void"}, Body: []api.Node{s}}}}})); e == api.OK && len(back[0].Procs[0].Body) == 1 && syntax.Same(back[0].Procs[0].Body[0], s) {
			want = api.OK
		}
		if text, e := syntax.Statement(s); e != want || (text == "") != (e != api.OK) {
			t.Fatal(s, text, e, want)
		}
	}
}

// TestFormOfAllOps gives to each Op all small numbers of Kids of each kind, some names and numbers.
func TestFormOfAllOps(t *testing.T) {
	e := api.Node{Op: api.Int, Num: 1}
	kinds := []api.Node{e, {Op: api.Name, Name: "a"}, {Op: api.Name, Name: "P.a"}, {Op: api.Type, Name: "int"}, {Op: api.Type, Name: "t"}, {Op: api.BlockOf}, {Op: api.Return}, {Op: api.Str}, {Op: api.Intent, Name: "+", Kids: []api.Node{{Op: api.Name, Name: "s"}}}, {Op: api.Call, Name: "f"}, {Op: api.Index, Kids: []api.Node{e, e}}}
	lists := [][]api.Node{nil}
	for i := 0; len(lists[i]) < 3; i++ {
		for _, k := range kinds {
			lists = append(lists, append(slices.Clone(lists[i]), k))
		}
	}
	r := newRandom(10)
	for op := -1; op < 72; op++ {
		for _, kids := range lists {
			if len(kids) == 3 && r.Intn(10) > 0 {
				continue
			}
			for _, name := range []string{"", "a", "-", "+", "=", "size", "read", "block", "blockcyclic"} {
				num := []int{0, 1, 2, 3}[r.Intn(4)]
				n := api.Node{Op: op, Name: name, Num: num, Kids: kids}
				checkForm(t, r, n)
			}
		}
	}
	if e := syntax.Form([]syntax.Module{{Name: "M", Globals: []syntax.Global{{Var: api.Node{}}}}}); e != api.ErrForm {
		t.Error(e)
	}
}

func checkForm(t *testing.T, r random, n api.Node) {
	t.Helper()
	if text, e := syntax.Expr(n); e == api.OK {
		if back, _, e := syntax.ReadExpr(text); e != api.OK || !syntax.Same(back, n) {
			t.Fatal(n, text, e)
		}
	} else if back, _, e2 := syntax.ReadExpr(r.looseExpr(n)); e != api.ErrForm || e2 == api.OK && syntax.Same(back, n) {
		t.Fatal(n, e, e2)
	}
	l := []syntax.Module{{Name: "M", Procs: []api.Proc{{Name: "f", Result: api.Node{Op: api.Type, Name: "void"}, Body: []api.Node{n}}}}}
	got := syntax.Form(l)
	back, _, e := syntax.Read(r.looseText(l))
	if right := e == api.OK && syntax.Equal(back, l); (got == api.OK) != right || got != api.OK && got != api.ErrForm {
		t.Fatal(n, got, e)
	}
}

func TestFormOfUses(t *testing.T) {
	for _, c := range []struct {
		u     syntax.Use
		right bool
	}{
		{syntax.Use{Kind: syntax.All, Module: "N"}, true}, {syntax.Use{Kind: syntax.All, Module: "N", Names: []string{}}, true}, {syntax.Use{Kind: syntax.All, Module: "N", As: "P"}, false}, {syntax.Use{Kind: syntax.All, Module: "N", Names: []string{"a"}}, false}, {syntax.Use{Kind: syntax.All}, false},
		{syntax.Use{Kind: syntax.Only, Module: "N"}, false}, {syntax.Use{Kind: syntax.Only, Module: "N", Names: []string{"a", "a"}}, true}, {syntax.Use{Kind: syntax.Only, Module: "N", Names: []string{"a", "P.a"}}, false}, {syntax.Use{Kind: syntax.Only, Module: "N", Names: []string{"a"}, As: "P"}, false},
		{syntax.Use{Kind: syntax.Except, Module: "N"}, false}, {syntax.Use{Kind: syntax.Except, Module: "N", Names: []string{"a"}}, true}, {syntax.Use{Kind: syntax.Except, Module: "N", Names: []string{""}}, false},
		{syntax.Use{Kind: syntax.Import, Module: "N", As: "P"}, true}, {syntax.Use{Kind: syntax.Import, Module: "N"}, false}, {syntax.Use{Kind: syntax.Import, Module: "N", As: "P", Names: []string{"a"}}, false}, {syntax.Use{Kind: syntax.Import, Module: "for", As: "P"}, false},
		{syntax.Use{Kind: 4, Module: "N"}, false}, {syntax.Use{Kind: -1, Module: "N"}, false},
	} {
		if got := syntax.Form([]syntax.Module{{Name: "M", Uses: []syntax.Use{c.u}}}); (got == api.OK) != c.right {
			t.Error(c.u, got)
		}
	}
}

// chain is a tree of the depth n.
func chain(n int) api.Node {
	x := api.Node{Op: api.Int, Num: 1}
	for range n - 1 {
		x = api.Node{Op: api.Unary, Name: "!", Kids: []api.Node{x}}
	}
	return x
}

// wide is a tree of n nodes.
func wide(n int) api.Node {
	return api.Node{Op: api.Call, Name: "f", Kids: slices.Repeat([]api.Node{{Op: api.Int, Num: 1}}, n-1)}
}

func TestLimitsOfNodes(t *testing.T) {
	wrong := api.Node{Op: 99}
	wrongWide := wide(api.MaxNodes)
	wrongWide.Kids = append(wrongWide.Kids, wrong)
	wrongDeep := chain(api.MaxDepth + 1)
	wrongDeep.Name = "?"
	deepAndWide := api.Node{Op: api.Call, Name: "f", Kids: []api.Node{chain(api.MaxDepth), wide(api.MaxNodes - api.MaxDepth)}}
	for i, c := range []struct {
		n api.Node
		e api.Errno
	}{
		{chain(api.MaxDepth), api.OK}, {chain(api.MaxDepth + 1), api.ErrDepth}, {wide(api.MaxNodes), api.OK}, {wide(api.MaxNodes + 1), api.ErrCount}, {chain(api.MaxNodes), api.ErrDepth}, {chain(api.MaxNodes + 1), api.ErrCount}, {chain(200000), api.ErrCount},
		{wrongWide, api.ErrCount}, {wrongDeep, api.ErrDepth}, {deepAndWide, api.ErrCount}, {wrong, api.ErrForm},
	} {
		if text, e := syntax.Expr(c.n); e != c.e || (text != "") != (e == api.OK) {
			t.Error(i, len(text), e)
		}
		within := api.Node{Op: api.Yield, Kids: c.n.Kids}
		want := c.e
		if len(c.n.Kids) != 1 && want == api.OK {
			want = api.ErrForm
		}
		if text, e := syntax.Statement(within); e != want || (text != "") != (e == api.OK) {
			t.Error(i, len(text), e, want)
		}
	}
	void := api.Node{Op: api.Type, Name: "void"}
	module := func(body ...api.Node) syntax.Module {
		return syntax.Module{Name: "M", Procs: []api.Proc{{Name: "f", Formals: []api.Formal{{Intent: "type", Name: "t"}}, Result: void, Body: body}}}
	}
	yield := func(n api.Node) api.Node { return api.Node{Op: api.Yield, Kids: []api.Node{n}} }
	half := module(yield(wide(api.MaxNodes/2 - 2)))
	for i, c := range []struct {
		l []syntax.Module
		e api.Errno
	}{
		{[]syntax.Module{half, half}, api.OK}, {[]syntax.Module{half, half, module()}, api.ErrCount}, {[]syntax.Module{module(yield(chain(api.MaxDepth - 1)))}, api.OK}, {[]syntax.Module{half, module(yield(chain(api.MaxDepth)))}, api.ErrDepth}, {[]syntax.Module{{}, half, module(yield(chain(api.MaxDepth)))}, api.ErrDepth}, {[]syntax.Module{{}, half, half, module(yield(wrong))}, api.ErrCount}, {[]syntax.Module{half, {}}, api.ErrForm},
	} {
		if e := syntax.Form(c.l); e != c.e {
			t.Error(i, e)
		}
		if text, e := syntax.Write(c.l); e != c.e || (text != "") != (e == api.OK) {
			t.Error(i, len(text), e)
		}
	}
}

// TestLimitsOfReading reads texts with just as many nodes, and as deep, as is permitted.
func TestLimitsOfReading(t *testing.T) {
	list := func(n int) string { return "f(" + strings.Repeat("1, ", n-2) + "1)" }
	deep := func(n int) string { return strings.Repeat("!", n-1) + "1" }
	for _, c := range []struct {
		text string
		at   int
		e    api.Errno
	}{
		{list(4000), 0, api.OK}, {list(4001), 0, api.ErrCount}, {deep(60), 0, api.OK}, {deep(61), 0, api.ErrDepth}, {"f(" + deep(60) + ", " + list(4000) + ")", 0, api.ErrCount}, {list(4001) + ")", len(list(4001)), syntax.ErrToken}, {deep(30000), 0, api.ErrCount}, {strings.Repeat("(", 19000) + "1" + strings.Repeat(")", 19000), 0, api.OK}, {strings.Repeat("(", api.MaxSource), api.MaxSource, syntax.ErrEnd},
	} {
		n, at, e := syntax.ReadExpr(c.text)
		if at != c.at || e != c.e || e != api.OK && n.Op != 0 {
			t.Errorf("%.20s: %d %d", c.text, at, e)
		}
	}
	for _, c := range []struct {
		text string
		e    api.Errno
	}{
		{"module M { var x = " + list(4000-5) + "; proc f(type t, a: int): int { return; } proc g() { } }", api.OK}, {"module M { var x = " + list(4001-5) + "; proc f(type t, a: int): int { return; } proc g() { } }", api.ErrCount},
		{"module M { var x = " + list(2000) + "; } module N { var x = " + list(1998) + "; }", api.OK}, {"module M { var x = " + list(2000) + "; } module N { var x = " + list(1999) + "; }", api.ErrCount},
		{"module M { var x = " + deep(59) + "; }", api.OK}, {"module M { } module N { var x = " + deep(60) + "; }", api.ErrDepth},
		{"module M { proc f() { " + strings.Repeat("{", 60) + strings.Repeat("}", 60) + "} }", api.OK}, {"module M { proc f() { " + strings.Repeat("{", 61) + strings.Repeat("}", 61) + "} }", api.ErrDepth},
	} {
		l, at, e := syntax.Read(c.text)
		if at != 0 || e != c.e || e != api.OK && l != nil {
			t.Errorf("%.20s: %d %d", c.text, at, e)
		}
	}
}
