package module

import (
	"maps"
	"strings"

	"raddle/api"
)

// linker links the trees of a module: taken has the linked names of all modules.
type linker struct {
	project *project
	module  int
	taken   map[string]bool
	visible map[string]int
}

// scope has the local names.
type scope map[string]bool

func (p *project) link() api.Program {
	taken := map[string]bool{}
	p.each(func(i int) {
		for n := range p.names[i] {
			taken[p.shortName(i, n)] = true
		}
	})
	var parts []api.Program
	p.each(func(i int) {
		k := linker{p, i, taken, p.visible(i)}
		parts = append(parts, k.program())
	})
	mains := 0
	all := api.Program{}
	for _, i := range p.order() {
		all.Globals = append(all.Globals, parts[i].Globals...)
		all.Procs = append(all.Procs, parts[i].Procs...)
		for _, f := range p.modules[i].Procs {
			if isMain(f) {
				mains++
			}
		}
	}
	if mains != 1 {
		panic(fault{0, ErrMain})
	}
	return all
}

func (k *linker) program() api.Program {
	all := api.Program{}
	for _, g := range k.project.modules[k.module].Globals {
		n := g.Var
		n.Name = k.project.linkedName(k.module, n.Name)
		n.Kids = changed(n.Kids, k.in(scope{}))
		all.Globals = append(all.Globals, n)
	}
	for _, f := range k.project.modules[k.module].Procs {
		all.Procs = append(all.Procs, k.procedure(f))
	}
	return all
}

func (k *linker) procedure(f api.Proc) api.Proc {
	linked := api.Proc{Name: k.project.linkedName(k.module, f.Name), Iter: f.Iter}
	locals := scope{}
	for _, a := range f.Formals {
		k.checkLocal(a.Name)
		made, makes := strings.CutPrefix(a.Type.Name, "?")
		if makes {
			k.checkLocal(made)
		}
		a.Type = k.node(a.Type, locals)
		linked.Formals = append(linked.Formals, a)
		locals[a.Name] = true
		if makes {
			locals[made] = true
		}
	}
	linked.Result = k.node(f.Result, locals)
	linked.Where = changed(f.Where, k.in(locals))
	linked.Body = changed(f.Body, k.in(locals))
	return linked
}

// checkLocal leaves, if a local name is the linked name of something.
func (k *linker) checkLocal(name string) {
	if k.taken[name] {
		panic(fault{k.module, ErrClash})
	}
}

// in returns what links a tree that stands in a scope.
func (k *linker) in(locals scope) func(api.Node) api.Node {
	return func(n api.Node) api.Node { return k.node(n, locals) }
}

// changed returns nodes, each of which a function has changed, in order.
func changed(l []api.Node, change func(api.Node) api.Node) []api.Node {
	var all []api.Node
	for _, n := range l {
		all = append(all, change(n))
	}
	return all
}

// node links a tree; a local variable is in the scope from behind its declaration on.
func (k *linker) node(n api.Node, locals scope) api.Node {
	switch n.Op {
	case api.Name:
		if !locals[n.Name] {
			n.Name = k.meaning(n.Name)
		}
	case api.Call:
		n.Name = k.meaning(n.Name)
	case api.Var:
		k.checkLocal(n.Name)
		n.Kids = changed(n.Kids, k.in(locals))
		locals[n.Name] = true
		return n
	case api.BlockOf:
		locals = maps.Clone(locals)
	case api.For, api.Forall, api.Coforall:
		return k.loop(n, locals)
	}
	n.Kids = changed(n.Kids, k.in(locals))
	return n
}

// loop links a loop, whose names are local in its block alone.
func (k *linker) loop(n api.Node, locals scope) api.Node {
	names, rest := n.Kids[:n.Num], n.Kids[n.Num:]
	inside := maps.Clone(locals)
	for _, name := range names {
		k.checkLocal(name.Name)
		inside[name.Name] = true
	}
	outside := k.in(locals)
	linked := changed(names, func(name api.Node) api.Node { return name })
	linked = append(linked, outside(rest[0]), k.node(rest[1], inside))
	n.Kids = append(linked, changed(rest[2:], outside)...)
	return n
}

// meaning returns the linked name of what a name means that is not local.
func (k *linker) meaning(name string) string {
	p := k.project
	as, member, dotted := strings.Cut(name, ".")
	if !dotted {
		return p.linkedName(k.find(k.visible, name), name)
	}
	from := k.find(p.imports[k.module], as)
	private, ok := p.names[from][member]
	switch {
	case !ok:
		panic(fault{k.module, ErrUnknown})
	case private:
		panic(fault{k.module, ErrPrivate})
	}
	return p.linkedName(from, member)
}

func (k *linker) find(modules map[string]int, name string) int {
	i, ok := modules[name]
	if !ok {
		panic(fault{k.module, ErrUnknown})
	}
	return i
}
