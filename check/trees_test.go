package check_test

import (
	"math/rand"
	"strings"

	"raddle/api"
)

// trees makes expressions and statements, most of which are right where locals a_int, a_bool .. (see named) are visible.
type trees struct{ *rand.Rand }

func newTrees(seed int64) trees { return trees{rand.New(rand.NewSource(seed))} }

func (r trees) pick(l ...string) string { return l[r.Intn(len(l))] }

func (r trees) one(words string) string { return r.pick(strings.Fields(words)...) }

func local(kind string) api.Node { return api.Node{Op: api.Name, Name: "a_" + kind} }

// expr makes an expression of a type.
func (r trees) expr(kind string, depth int) api.Node {
	if r.Intn(60) == 0 {
		kind = r.one(allTypes)
	}
	if depth <= 0 || r.Intn(6) == 0 {
		switch {
		case kind == "int" && r.Intn(2) == 0:
			return api.Node{Op: api.Int, Num: r.Intn(9) - 4}
		case kind == "bool" && r.Intn(2) == 0:
			return api.Node{Op: api.Bool, Num: r.Intn(2)}
		}
		return local(kind)
	}
	e := func(kind string) api.Node { return r.expr(kind, depth-1) }
	n := func(op int, name string, kids ...api.Node) api.Node { return api.Node{Op: op, Name: name, Kids: kids} }
	switch kind {
	case "int":
		switch r.Intn(7) {
		case 0:
			return n(api.Binary, r.one("+ - * / %"), e("int"), e("int"))
		case 1:
			return n(api.Unary, "-", e("int"))
		case 2:
			return n(api.Index, "", e("array1"), e("int"))
		case 3:
			return n(api.Field, "size", e(r.one("range domain1 domain2 array1 array2")))
		case 4:
			return n(api.Reduce, r.one("+ * min max"), e(r.one("range domain1 array1 array2")))
		case 5:
			return n(api.Cond, "", e("bool"), e("int"), e("int"))
		}
		return n(api.Method, "fetchAdd", e("atomic"), e("int"))
	case "bool":
		switch r.Intn(4) {
		case 0:
			return n(api.Binary, r.one("&& || == !="), e("bool"), e("bool"))
		case 1:
			return n(api.Binary, r.one("== != < <= > >="), e("int"), e("int"))
		case 2:
			return n(api.Unary, "!", e("bool"))
		}
		return n(api.Method, "isFull", e("sync"))
	case "range":
		switch r.Intn(4) {
		case 0:
			return n(api.RangeOf, "", e("int"), e("int"))
		case 1:
			return n(api.By, "", e("range"), e("int"))
		case 2:
			return n(api.Call, "f", e("int"), e("bool"))
		}
		return n(api.Cond, "", e("bool"), e("range"), e("range"))
	case "domain1":
		return n(api.DomainOf, "", e("range"))
	case "domain2":
		return n(api.Mapped, "block", n(api.DomainOf, "", e("range"), e("range")))
	}
	return local(kind)
}

// block makes a block in which the local variables names may be declared and used, as may be those of trees.
func (r trees) block(depth int) api.Node {
	b := api.Node{Op: api.BlockOf}
	for range r.Intn(4) {
		b.Kids = append(b.Kids, r.statement(depth-1))
	}
	return b
}

// name returns the name of an int, which may be one of the locals, or one that is declared.
func (r trees) name() string { return r.one("a_int i j v w g1") }

func (r trees) statement(depth int) api.Node {
	e := func(kind string) api.Node { return r.expr(kind, 2) }
	x := api.Node{Op: api.Name, Name: r.name()}
	k := r.Intn(17)
	if depth <= 0 {
		k = r.Intn(7)
	}
	b := func() api.Node { return r.block(depth) }
	switch k {
	case 0, 1:
		return api.Node{Op: api.Var, Name: r.one("v w i"), Num: api.HasInit + r.Intn(2)*api.IsConst, Kids: []api.Node{e("int")}}
	case 2, 3:
		return api.Node{Op: api.Assign, Name: r.one("= += -= *="), Kids: []api.Node{x, e("int")}}
	case 4:
		return api.Node{Op: api.Assign, Name: "=", Kids: []api.Node{{Op: api.Index, Kids: []api.Node{local("array1"), x}}, e("int")}}
	case 5:
		return api.Node{Op: api.Write, Kids: []api.Node{{Op: api.Str, Name: "s"}, x, e("bool")}}
	case 6:
		return []api.Node{{Op: api.Return}, {Op: api.Assert, Kids: []api.Node{e("bool")}}, {Op: api.Do, Kids: []api.Node{{Op: api.Call, Name: "v"}}}, {Op: api.Yield, Kids: []api.Node{e("int")}}}[r.Intn(4)]
	case 7:
		return api.Node{Op: api.If, Kids: []api.Node{e("bool"), b(), b()}[:2+r.Intn(2)]}
	case 8:
		return api.Node{Op: api.While, Kids: []api.Node{e("bool"), b()}}
	case 9, 10:
		return api.Node{Op: r.loop(), Num: 1, Kids: []api.Node{{Op: api.Name, Name: r.one("i j v")}, e(r.one("range domain1")), b()}}
	case 11:
		return api.Node{Op: r.loop(), Num: 2, Kids: []api.Node{{Op: api.Name, Name: "i"}, {Op: api.Name, Name: r.one("j v")}, e("domain2"), b()}}
	case 12:
		return api.Node{Op: api.Forall, Num: 1, Kids: []api.Node{{Op: api.Name, Name: "i"}, e("range"), b(), {Op: api.Intent, Name: "+", Kids: []api.Node{x}}}}
	case 13:
		return api.Node{Op: []int{api.Begin, api.Sync}[r.Intn(2)], Kids: []api.Node{b()}}
	case 14:
		return api.Node{Op: api.Cobegin, Kids: []api.Node{b(), b()}}
	case 15:
		return api.Node{Op: api.On, Kids: []api.Node{e("int"), b()}}
	}
	return b()
}

func (r trees) loop() int { return []int{api.For, api.Forall, api.Coforall}[r.Intn(3)] }

// program makes a program with a procedure for each of some bodies, which has formal arguments of all types; the first one is main, and has none.
func (r trees) program(bodies int) api.Program {
	p := api.Program{Globals: []api.Node{{Op: api.Var, Name: "g1", Num: api.HasInit, Kids: []api.Node{{Op: api.Int}}}}}
	p.Procs = []api.Proc{{Name: "main", Result: kind("void")}, {Name: "v", Result: kind("void")}, {Name: "f", Formals: []api.Formal{{Name: "x", Type: kind("int")}, {Name: "y", Type: kind("bool")}}, Result: kind("range"), Body: []api.Node{{Op: api.Return, Kids: []api.Node{{Op: api.RangeOf, Kids: []api.Node{{Op: api.Int}, {Op: api.Name, Name: "x"}}}}}}}}
	for i := range bodies {
		f := api.Proc{Name: "p" + string(rune('0'+i)), Result: kind("void")}
		for _, t := range strings.Fields(allTypes) {
			if t != "void" {
				f.Formals = append(f.Formals, api.Formal{Intent: "in", Name: "a_" + t, Type: kind(t)})
			}
		}
		f.Body = r.block(3).Kids
		p.Procs = append(p.Procs, f)
	}
	return p
}
