package generic

import (
	"slices"

	"raddle/api"
	"raddle/check"
	"raddle/param"
)

// maker makes the instances that a program without params needs: made has its globals, and the instances in the order in which they were needed, found has their indices by names, globals has the types of the globals, and queue makes the bodies that are still missing.
type maker struct {
	p       api.Program
	made    api.Program
	found   map[string]int
	globals []check.Typed
	queue   []func()
}

func (m *maker) program() {
	main := slices.IndexFunc(m.p.Procs, func(f api.Proc) bool {
		return f.Name == "main" && len(f.Formals) == 0 && len(f.Where) == 0
	})
	if main < 0 {
		panic(stop(api.ErrMissing))
	}
	m.made.Globals = slices.Clone(m.p.Globals)
	m.need(main, nil)
	for i, g := range m.p.Globals {
		g = m.resolve(g, nil)
		m.made.Globals[i] = g
		m.variableType(g, nil)
	}
	m.globals = globalTypes(m.made)
	for len(m.queue) > 0 {
		work := m.queue[0]
		m.queue = m.queue[1:]
		work()
	}
}

// need returns the name of the instance of a procedure for arguments that it takes, and sees to it that it is made.
func (m *maker) need(proc int, l []Argument) string {
	f := m.p.Procs[proc]
	types, _ := match(f, l)
	name, e := canonical(m.p, proc, l, types)
	must(e)
	if _, known := m.found[name]; known {
		return name
	}
	switch {
	case name != f.Name && check.Find(m.p, name) >= 0:
		panic(stop(api.ErrDuplicate))
	case len(m.made.Procs) == api.MaxProcs:
		panic(stop(ErrInstances))
	}
	at := len(m.made.Procs)
	m.found[name] = at
	m.made.Procs = append(m.made.Procs, head(f, name, types))
	m.queue = append(m.queue, func() {
		body, e := param.Block(typedBody(f, types), constants(f, l))
		must(e)
		body = m.resolveAll(body, slices.Concat(m.globals, formals(m.made.Procs[at])))
		m.made.Procs[at].Body = body
	})
	return name
}

// globalTypes returns the globals of a program as locals that all others hide, so that their types are found just once.
func globalTypes(p api.Program) []check.Typed {
	var l []check.Typed
	for _, g := range p.Globals {
		t, e := check.TypeOf(p, api.Node{Op: api.Name, Name: g.Name}, nil)
		if e == api.OK {
			l = append(l, check.Typed{Name: g.Name, Type: t})
		}
	}
	return l
}

// head returns an instance without its body.
func head(f api.Proc, name string, types *binding) api.Proc {
	made := api.Proc{Name: name, Iter: f.Iter, Private: f.Private, Result: types.replace(f.Result)}
	for _, a := range f.Formals {
		if !isGone(a) {
			a.Type = types.replace(a.Type)
			made.Formals = append(made.Formals, a)
		}
	}
	return made
}

// formals returns the formal arguments of an instance as locals.
func formals(f api.Proc) []check.Typed {
	var l []check.Typed
	for _, a := range f.Formals {
		l = append(l, check.Typed{Name: a.Name, Type: a.Type.Name, Const: a.Intent != "in"})
	}
	return l
}

// rebuilt returns what a function makes of nodes one after the other; it is handed what is visible at each one, and returns what is visible behind it.
func rebuilt[Visible any](l []api.Node, visible Visible, step func(i int, n api.Node, visible Visible) (api.Node, Visible)) []api.Node {
	var all []api.Node
	for i, n := range l {
		n, visible = step(i, n, visible)
		all = append(all, n)
	}
	return all
}

// namesWithin returns the names that a loop declares for its Kid at an index.
func namesWithin(n api.Node, kid int) []api.Node {
	if (n.Op == api.For || n.Op == api.Forall || n.Op == api.Coforall) && kid == n.Num+1 {
		return n.Kids[:n.Num]
	}
	return nil
}

// replace returns a Type, in which a type variable that has a type is this.
func (b *binding) replace(t api.Node) api.Node {
	if name, variable := variableOf(t); variable {
		if of := b.find(name); of != "" {
			t.Name = of
		}
	}
	return t
}

// typedBody returns the body of a procedure with types in the place of type variables.
func typedBody(f api.Proc, types *binding) []api.Node {
	visible := types
	for _, a := range f.Formals {
		if a.Intent != "type" {
			visible = visible.hide(a.Name)
		}
	}
	body := api.Node{Op: api.BlockOf, Kids: f.Body}
	return types.typed(body, visible).Kids
}

// typed returns a tree with types in the place of type variables, and of those names as arguments that visible has.
func (b *binding) typed(n api.Node, visible *binding) api.Node {
	n = b.replace(n)
	n.Kids = rebuilt(n.Kids, visible, func(i int, k api.Node, visible *binding) (api.Node, *binding) {
		if n.Op == api.Call && k.Op == api.Name && visible.find(k.Name) != "" {
			return api.Node{Op: api.Type, Name: visible.find(k.Name)}, visible
		}
		inside := visible
		for _, name := range namesWithin(n, i) {
			inside = inside.hide(name.Name)
		}
		if k.Op == api.Var {
			visible = visible.hide(k.Name)
		}
		return b.typed(k, inside), visible
	})
	return n
}
