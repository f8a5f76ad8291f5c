package inline

import (
	"slices"

	"raddle/api"
)

// inliner takes the iterators of a program out of its procedures: number is that of the last loop, size the number of nodes that the present procedure has.
type inliner struct {
	p            api.Program
	number, size int
}

func withoutIterators(p api.Program) api.Program {
	made := api.Program{Globals: slices.Clone(p.Globals)}
	m := &inliner{p: apart(p)}
	for _, f := range m.p.Procs {
		if !f.Iter {
			m.size = procedureSize(f)
			m.statements(f.Body)
			made.Procs = append(made.Procs, f)
		}
	}
	return made
}

// apart returns a program, with bodies in memory of their own, in which no local has the name of a global.
func apart(p api.Program) api.Program {
	globals := map[string]bool{}
	for _, g := range p.Globals {
		globals[g.Name] = true
	}
	r := renamer{rename: func(name string) string {
		if globals[name] {
			return name + "__l"
		}
		return name
	}}
	procs := slices.Clone(p.Procs)
	for i, f := range procs {
		formals := (*scope)(nil).inside()
		procs[i].Formals = slices.Clone(f.Formals)
		for j, a := range f.Formals {
			formals.becomes[a.Name] = r.rename(a.Name)
			procs[i].Formals[j].Name = r.rename(a.Name)
		}
		procs[i].Body = r.tree(api.Node{Op: api.BlockOf, Kids: f.Body}, formals).Kids
	}
	return api.Program{Globals: p.Globals, Procs: procs}
}

// procedureSize returns how many nodes the trees of a procedure without a condition have.
func procedureSize(f api.Proc) int {
	size := count(f.Result)
	for _, a := range f.Formals {
		size += count(a.Type)
	}
	for range nodes(f.Body) {
		size++
	}
	return size
}

// statements takes the loops over iterators out of statements, which are in memory of their own.
func (m *inliner) statements(l []api.Node) {
	for i, n := range l {
		l[i] = m.statement(n)
	}
}

func (m *inliner) statement(n api.Node) api.Node {
	if f, ok := iterator(m.p, n); ok {
		m.size += inlinedSize(f, n) - count(n)
		limit(m.size)
		m.number++
		n = inlined(f, n, m.number)
	}
	if n.Op == api.BlockOf {
		m.statements(n.Kids)
		return n
	}
	for i, k := range n.Kids {
		if k.Op == api.BlockOf {
			n.Kids[i] = m.statement(k)
		}
	}
	return n
}
