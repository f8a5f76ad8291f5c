package lower

import (
	"raddle/api"
	"raddle/check"
)

// maker makes the code of a program, which has so many instructions so far.
type maker struct {
	p            api.Program
	values       map[int]func(*builder, api.Node) int
	effects      map[int]func(*builder, api.Node)
	globals      []named
	bodies       []api.Body
	instructions int
}

func newMaker(p api.Program) *maker {
	return &maker{p: p, values: values(), effects: effects()}
}

func (m *maker) program() api.Code {
	limit(len(m.p.Globals), maxGlobals)
	m.start()
	var procedures []*builder
	for _, f := range m.p.Procs {
		procedures = append(procedures, m.builder(f.Name, len(f.Formals)))
	}
	for i, b := range procedures {
		f := m.p.Procs[i]
		for register, a := range f.Formals {
			b.declare(a.Name, a.Type.Name, register)
		}
		b.statements(f.Body)
		b.finish()
	}
	return api.Code{Globals: len(m.p.Globals), Bodies: m.bodies}
}

// start makes the body that a program begins with.
func (m *maker) start() {
	b := m.builder("_start", 0)
	for i, g := range m.p.Globals {
		kind, r := b.variable(g)
		b.add(api.Ins{Op: api.OpPut, A: i, B: r})
		b.names = append(b.names, named{check.Typed{Name: g.Name, Type: kind}, i, true})
	}
	m.globals = b.names
	b.into(api.Ins{Op: api.OpCall, B: m.bodyOf("main")})
	b.finish()
}

// bodyOf returns the number of the body of a procedure.
func (m *maker) bodyOf(procedure string) int { return 1 + check.Find(m.p, procedure) }

// builder returns what makes the next body, with so many arguments, for a procedure.
func (m *maker) builder(name string, arguments int) *builder {
	b := &builder{maker: m, at: len(m.bodies), procedure: name, tasks: new(int)}
	b.names = append(b.names, m.globals...)
	b.made = api.Body{Name: name, Registers: arguments, Arguments: arguments}
	m.bodies = append(m.bodies, b.made)
	limit(len(m.bodies), maxBodies)
	return b
}
