package generic

import (
	"slices"

	"raddle/api"
	"raddle/check"
	"raddle/param"
)

// resolveAll resolves the calls of the statements of a block.
func (m *maker) resolveAll(l []api.Node, locals []check.Typed) []api.Node {
	return m.resolve(api.Node{Op: api.BlockOf, Kids: l}, locals).Kids
}

// resolve returns a tree whose calls are those of instances.
func (m *maker) resolve(n api.Node, locals []check.Typed) api.Node {
	element := ""
	n.Kids = rebuilt(n.Kids, locals, func(i int, k api.Node, locals []check.Typed) (api.Node, []check.Typed) {
		inside := slices.Clip(locals)
		for _, name := range namesWithin(n, i) {
			inside = append(inside, check.Typed{Name: name.Name, Type: element, Const: true})
		}
		k = m.resolve(k, inside)
		element = m.elementType(k)
		if k.Op == api.Var {
			locals = append(slices.Clip(locals), m.variable(k, locals))
		}
		return k, locals
	})
	if n.Op == api.Call {
		return m.call(n, locals)
	}
	return n
}

// elementType returns the type of the names of a loop that goes through an expression.
func (m *maker) elementType(n api.Node) string {
	if at, ok := m.found[n.Name]; ok && n.Op == api.Call {
		if f := m.made.Procs[at]; f.Iter && f.Result.Name == "bool" {
			return "bool"
		}
	}
	return "int"
}

func (m *maker) variable(n api.Node, locals []check.Typed) check.Typed {
	return check.Typed{Name: n.Name, Type: m.variableType(n, locals), Const: n.Num&api.IsConst != 0}
}

// variableType returns the type of a Var whose calls are resolved.
func (m *maker) variableType(n api.Node, locals []check.Typed) string {
	first := n.Kids[0]
	switch {
	case n.Num&api.HasType == 0:
		return m.typeOf(first, locals)
	case first.Op == api.Type:
		return first.Name
	}
	switch m.typeOf(first.Kids[0], locals) {
	case "domain1":
		return "array1"
	case "domain2":
		return "array2"
	}
	panic(stop(api.ErrType))
}

// typeOf returns the type of an expression whose calls are resolved.
func (m *maker) typeOf(n api.Node, locals []check.Typed) string {
	t, e := check.TypeOf(m.made, n, locals)
	must(e)
	return t
}

// call returns the call of an instance in the place of one whose arguments are resolved.
func (m *maker) call(n api.Node, locals []check.Typed) api.Node {
	var l []Argument
	for _, k := range n.Kids {
		l = append(l, m.argument(k, locals))
	}
	must(argumentsError(l))
	proc, e := choose(m.p, n.Name, l)
	must(e)
	made := api.Node{Op: api.Call, Name: m.need(proc, l)}
	for i, a := range m.p.Procs[proc].Formals {
		if !isGone(a) {
			made.Kids = append(made.Kids, n.Kids[i])
		}
	}
	return made
}

func (m *maker) argument(n api.Node, locals []check.Typed) Argument {
	if n.Op == api.Type {
		return Argument{Type: n.Name, IsType: true}
	}
	x := Argument{Type: m.typeOf(n, locals)}
	if v, e := param.Eval(n, nil); e == api.OK {
		x.Value = []api.Node{v}
	}
	return x
}
