package module

import (
	"slices"
	"strconv"

	"raddle/api"
	"raddle/syntax"
)

// project has right modules, their indices by their names, and for each one its names (and whether they are private) and the modules that it imports, by their new names.
type project struct {
	modules []syntax.Module
	index   map[string]int
	names   []map[string]bool
	imports []map[string]int
}

// open leaves with the error of modules, if they have one.
func open(l []syntax.Module) *project {
	for i, m := range l {
		if e := syntax.Form([]syntax.Module{m}); e != api.OK {
			panic(fault{i, e})
		}
	}
	p := &project{modules: l, index: map[string]int{}}
	for i, m := range l {
		if _, twice := p.index[m.Name]; twice {
			panic(fault{i, ErrModule})
		}
		p.index[m.Name] = i
	}
	p.each(p.checkUsed)
	p.each(p.addNames)
	p.each(p.checkListed)
	p.each(func(i int) { p.visible(i) })
	return p
}

func (p *project) each(work func(module int)) {
	for i := range p.modules {
		work(i)
	}
}

// at leaves, if there is no module with an index.
func (p *project) at(module int) *project {
	if module < 0 || module >= len(p.modules) {
		panic(fault{0, api.ErrRange})
	}
	return p
}

func (p *project) checkUsed(module int) {
	for _, u := range p.modules[module].Uses {
		if i, ok := p.index[u.Module]; !ok || i == module {
			panic(fault{module, ErrModule})
		}
	}
}

func (p *project) addNames(module int) {
	clash := fault{module, ErrClash}
	names, globals, imports := map[string]bool{}, map[string]bool{}, map[string]int{}
	for _, g := range p.modules[module].Globals {
		if globals[g.Var.Name] {
			panic(clash)
		}
		globals[g.Var.Name] = true
		names[g.Var.Name] = g.Private
	}
	for _, f := range p.modules[module].Procs {
		if globals[f.Name] {
			panic(clash)
		}
		if _, overload := names[f.Name]; !overload {
			names[f.Name] = f.Private
		}
	}
	for _, u := range p.modules[module].Uses {
		if u.Kind != syntax.Import {
			continue
		}
		if _, twice := imports[u.As]; twice {
			panic(clash)
		}
		imports[u.As] = p.index[u.Module]
	}
	p.names, p.imports = append(p.names, names), append(p.imports, imports)
}

func (p *project) checkListed(module int) {
	for _, u := range p.modules[module].Uses {
		names := p.names[p.index[u.Module]]
		for _, n := range u.Names {
			if private, ok := names[n]; !ok || private {
				panic(fault{module, ErrUse})
			}
		}
	}
}

// visible returns the names that are visible in a module, each with the module that has it.
func (p *project) visible(module int) map[string]int {
	all := map[string]int{}
	for n := range p.names[module] {
		all[n] = module
	}
	for _, u := range p.modules[module].Uses {
		from := p.index[u.Module]
		for _, n := range p.usedNames(u) {
			of, known := all[n]
			if known && of != from && of != module {
				panic(fault{module, ErrClash})
			}
			if !known {
				all[n] = from
			}
		}
	}
	return all
}

// usedNames returns the names that a use makes visible, in any order.
func (p *project) usedNames(u syntax.Use) []string {
	switch u.Kind {
	case syntax.Only:
		return u.Names
	case syntax.Import:
		return nil
	}
	listed := map[string]bool{}
	for _, n := range u.Names {
		listed[n] = true
	}
	var names []string
	for n, private := range p.names[p.index[u.Module]] {
		if !private && !listed[n] {
			names = append(names, n)
		}
	}
	return names
}

func isMain(f api.Proc) bool { return f.Name == "main" && !f.Iter }

// shortName returns the linked name of something of a module, and leaves, if it is too long for a name.
func (p *project) shortName(module int, name string) string {
	linked := p.linkedName(module, name)
	if len(linked) > api.MaxName {
		panic(fault{module, api.ErrLarge})
	}
	return linked
}

func (p *project) linkedName(module int, name string) string {
	if name == "main" && slices.ContainsFunc(p.modules[module].Procs, isMain) {
		return name
	}
	return name + "_" + strconv.Itoa(module)
}

// order returns the modules in the order in which a search that goes on to those that are used leaves them.
func (p *project) order() []int {
	var order []int
	begun := make([]bool, len(p.modules))
	var visit func(module int)
	visit = func(module int) {
		if begun[module] {
			return
		}
		begun[module] = true
		for _, u := range p.modules[module].Uses {
			visit(p.index[u.Module])
		}
		order = append(order, module)
	}
	p.each(visit)
	return order
}

// cycles goes from each module, those behind others in the order first, to the modules that use it: what it meets that has not been met is in cycles with it.
func (p *project) cycles() []int {
	users := make([][]int, len(p.modules))
	p.each(func(i int) {
		for _, u := range p.modules[i].Uses {
			used := p.index[u.Module]
			users[used] = append(users[used], i)
		}
	})
	var cycles, group []int
	met := make([]bool, len(p.modules))
	var visit func(module int)
	visit = func(module int) {
		if met[module] {
			return
		}
		met[module] = true
		group = append(group, module)
		for _, i := range users[module] {
			visit(i)
		}
	}
	for _, i := range slices.Backward(p.order()) {
		group = nil
		visit(i)
		if len(group) > 1 {
			cycles = append(cycles, group...)
		}
	}
	slices.Sort(cycles)
	return cycles
}
