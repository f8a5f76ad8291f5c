package syntax_test

import (
	"math"
	"math/rand"
	"slices"
	"strings"

	"raddle/api"
	"raddle/syntax"
)

// random makes right trees and modules.
type random struct{ *rand.Rand }

func newRandom(seed int64) random { return random{rand.New(rand.NewSource(seed))} }

func (r random) one(words string) string {
	l := strings.Fields(words)
	return l[r.Intn(len(l))]
}

func (r random) name() string { return r.one("a b x1 _y size low read domain1 array2 main t") }

func (r random) dotted() string {
	if r.Intn(4) == 0 {
		return r.name() + "." + r.one("x y main domain1 t")
	}
	return r.name()
}

func (r random) list(n int, part func() api.Node) []api.Node {
	var l []api.Node
	for range n {
		l = append(l, part())
	}
	return l
}

const (
	binaryNames = "+ - * / % == != < <= > >= && ||"
	reduceNames = "+ * min max && ||"
	methodNames = "readFE readFF readXX writeEF writeFF writeXF reset isFull read write add fetchAdd exchange compareAndSwap"
)

func (r random) number() int {
	return []int{0, 1, 2, 17, -1, -5, math.MaxInt, -math.MaxInt, r.Intn(100) - 50}[r.Intn(9)]
}

func (r random) leaf() api.Node {
	return []api.Node{{Op: api.Int, Num: r.number()}, {Op: api.Bool, Num: r.Intn(2)}, {Op: api.Name, Name: r.dotted()}, {Op: api.Here}, {Op: api.NumLocales}}[r.Intn(5)]
}

func (r random) expr(depth int) api.Node {
	if depth <= 0 {
		return r.leaf()
	}
	e := func() api.Node { return r.expr(depth - 1 - r.Intn(2)) }
	n := api.Node{Op: []int{api.Int, api.Name, api.Unary, api.Binary, api.Binary, api.Binary, api.RangeOf, api.By, api.Count, api.DomainOf, api.Mapped, api.Index, api.Call, api.Field, api.Method, api.Reduce, api.Cond}[r.Intn(17)]}
	count := 2
	switch n.Op {
	case api.Int, api.Name:
		return r.leaf()
	case api.Unary:
		n.Name, count = r.one("- !"), 1
	case api.Binary:
		n.Name = r.one(binaryNames)
	case api.DomainOf:
		count = 1 + r.Intn(2)
	case api.Mapped:
		n.Name, count = r.one("block cyclic hashed"), 1
		if r.Intn(2) == 0 {
			n.Name, count = "blockcyclic", 2
		}
	case api.Index:
		count = 2 + r.Intn(2)
	case api.Call:
		n.Name, n.Kids = r.dotted(), r.list(r.Intn(4), func() api.Node {
			if r.Intn(4) == 0 {
				return api.Node{Op: api.Type, Name: r.one("int bool range sync atomic void domain1 domain2 array1 array2")}
			}
			return e()
		})
		return n
	case api.Field:
		n.Name, count = r.one("size low high stride domain"), 1
	case api.Method:
		n.Name, count = r.one(methodNames), 1+r.Intn(3)
	case api.Reduce:
		n.Name, count = r.one(reduceNames), 1
	case api.Cond:
		count = 3
	}
	n.Kids = r.list(count, e)
	return n
}

func (r random) typeOf() api.Node {
	switch r.Intn(4) {
	case 0:
		return api.Node{Op: api.Array, Kids: []api.Node{r.expr(2)}}
	case 1:
		return api.Node{Op: api.Type, Name: r.one("?t t ?size a ?_")}
	}
	return api.Node{Op: api.Type, Name: r.one("int bool range sync atomic void domain1 domain2 array1 array2")}
}

func (r random) variable() api.Node {
	n := api.Node{Op: api.Var, Name: r.name(), Num: []int{1, 2, 3, 6, 7, 10, 11}[r.Intn(7)]}
	if n.Num&api.HasType != 0 {
		n.Kids = append(n.Kids, r.typeOf())
	}
	if n.Num&api.HasInit != 0 {
		n.Kids = append(n.Kids, r.expr(3))
	}
	return n
}

func (r random) block(depth int) api.Node {
	return api.Node{Op: api.BlockOf, Kids: r.list(r.Intn(4), func() api.Node { return r.statement(depth - 1) })}
}

func (r random) plain() api.Node { return api.Node{Op: api.Name, Name: r.name()} }

func (r random) statement(depth int) api.Node {
	simple := []int{api.Var, api.Assign, api.Return, api.Yield, api.Do, api.Write, api.Assert}
	nested := []int{api.If, api.While, api.For, api.Forall, api.Coforall, api.Begin, api.Cobegin, api.Sync, api.On, api.BlockOf}
	if depth > 0 {
		simple = append(simple, nested...)
	}
	n := api.Node{Op: simple[r.Intn(len(simple))]}
	b := func() api.Node { return r.block(depth) }
	switch n.Op {
	case api.Var:
		return r.variable()
	case api.Assign:
		n.Name = r.one("= += -= *=")
		target := r.plain()
		if r.Intn(2) == 0 {
			target = api.Node{Op: api.Index, Kids: r.list(2+r.Intn(2), func() api.Node { return r.expr(2) })}
		}
		n.Kids = []api.Node{target, r.expr(3)}
	case api.Return:
		n.Kids = r.list(r.Intn(2), func() api.Node { return r.expr(3) })
	case api.Yield, api.Assert:
		n.Kids = []api.Node{r.expr(3)}
	case api.Do:
		for len(n.Kids) == 0 {
			if x := r.expr(3); x.Op == api.Call || x.Op == api.Method {
				n.Kids = []api.Node{x}
			}
		}
	case api.Write:
		n.Kids = r.list(r.Intn(4), func() api.Node {
			if r.Intn(2) == 0 {
				return api.Node{Op: api.Str, Name: []string{"", "x", "a\"\\\n\t\x00\xff~ ", "//", "(", "size"}[r.Intn(6)]}
			}
			return r.expr(2)
		})
	case api.If:
		n.Kids = append([]api.Node{r.expr(2)}, r.list(1+r.Intn(2), b)...)
	case api.While, api.On:
		n.Kids = []api.Node{r.expr(2), b()}
	case api.For, api.Coforall, api.Forall:
		n.Num = 1 + r.Intn(2)
		n.Kids = append(r.list(n.Num, r.plain), r.expr(2), b())
		if n.Op == api.Forall {
			n.Kids = append(n.Kids, r.list(r.Intn(3), func() api.Node {
				return api.Node{Op: api.Intent, Name: r.one(reduceNames), Kids: []api.Node{r.plain()}}
			})...)
		}
	case api.Begin, api.Sync:
		n.Kids = []api.Node{b()}
	case api.Cobegin:
		n.Kids = r.list(r.Intn(3), b)
	case api.BlockOf:
		return b()
	}
	return n
}

func (r random) use() syntax.Use {
	u := syntax.Use{Kind: r.Intn(4), Module: r.name()}
	switch u.Kind {
	case syntax.Only, syntax.Except:
		u.Names = []string{r.name(), r.name(), r.name()}[:1+r.Intn(3)]
	case syntax.Import:
		u.As = r.name()
	}
	return u
}

func (r random) formal() api.Formal {
	f := api.Formal{Intent: []string{"", "in", "const", "param", "type"}[r.Intn(5)], Name: r.name()}
	if f.Intent != "type" {
		f.Type = r.typeOf()
	}
	return f
}

func (r random) proc() api.Proc {
	p := api.Proc{Name: r.name(), Iter: r.Intn(3) == 0, Private: r.Intn(3) == 0, Result: api.Node{Op: api.Type, Name: "void"}}
	for range r.Intn(4) {
		p.Formals = append(p.Formals, r.formal())
	}
	if r.Intn(2) == 0 {
		p.Result = r.typeOf()
	}
	p.Where = r.list(r.Intn(2), func() api.Node { return r.expr(2) })
	p.Body = r.block(3).Kids
	return p
}

func (r random) module() syntax.Module {
	m := syntax.Module{Name: r.name()}
	for range r.Intn(3) {
		m.Uses = append(m.Uses, r.use())
	}
	for range r.Intn(3) {
		m.Globals = append(m.Globals, syntax.Global{Private: r.Intn(2) == 0, Var: r.variable()})
	}
	for range r.Intn(4) {
		m.Procs = append(m.Procs, r.proc())
	}
	return m
}

func (r random) modules() []syntax.Module {
	var l []syntax.Module
	for range r.Intn(3) {
		l = append(l, r.module())
	}
	return l
}

// cloneNode copies a tree with its memory.
func cloneNode(n api.Node) api.Node {
	n.Kids = cloneNodes(n.Kids)
	return n
}

func cloneNodes(l []api.Node) []api.Node {
	l = slices.Clone(l)
	for i := range l {
		l[i] = cloneNode(l[i])
	}
	return l
}

func cloneModules(l []syntax.Module) []syntax.Module {
	l = slices.Clone(l)
	for i, m := range l {
		m.Uses, m.Globals, m.Procs = slices.Clone(m.Uses), slices.Clone(m.Globals), slices.Clone(m.Procs)
		for j := range m.Uses {
			m.Uses[j].Names = slices.Clone(m.Uses[j].Names)
		}
		for j := range m.Globals {
			m.Globals[j].Var = cloneNode(m.Globals[j].Var)
		}
		for j, p := range m.Procs {
			p.Formals = slices.Clone(p.Formals)
			for k := range p.Formals {
				p.Formals[k].Type = cloneNode(p.Formals[k].Type)
			}
			p.Result, p.Where, p.Body = cloneNode(p.Result), cloneNodes(p.Where), cloneNodes(p.Body)
			m.Procs[j] = p
		}
		l[i] = m
	}
	return l
}
