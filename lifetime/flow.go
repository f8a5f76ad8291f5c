package lifetime

import "raddle/api"

// What a variable may be.
const (
	mayUnset = 1 << iota
	mayNil
	mayObject
	mayMoved
	mayDead
)

// may is what may be at a place: of each variable a set of what it may be, and of a borrowed one the variables and the fields of classes that it hangs on.
type may struct {
	be     [MaxVars]uint8
	vars   [MaxVars]uint32
	fields [MaxVars]uint64
}

// or returns what may be at a place that is reached in two ways.
func (m may) or(other may) may {
	for v := range m.be {
		m.be[v] |= other.be[v]
		m.vars[v] |= other.vars[v]
		m.fields[v] |= other.fields[v]
	}
	return m
}

// set returns what may be behind the setting of a variable, which hangs on nothing.
func (m may) set(v int, be uint8) may {
	m.be[v], m.vars[v], m.fields[v] = be, 0, 0
	return m
}

// flow finds what may be at the statements of a program; heads has what may be at the beginning of each loop, as far as it was found.
type flow struct {
	p     Program
	at    []may
	begun []bool
	heads []may
}

// checkUses leaves with the first statement of a program of the right form that may fail.
func checkUses(p Program) {
	n := 0
	body := steps(p.Body, &n)
	f := &flow{p: p, at: make([]may, n), begun: make([]bool, n), heads: make([]may, n)}
	f.block(body, may{})
	n = 0
	for at, s := range p.walk() {
		if e := f.statementError(action(s), f.at[n]); e != api.OK {
			panic(fault{at.path, e})
		}
		n++
	}
}

// statementError returns the error of what a statement needs and takes.
func (f *flow) statementError(does any, m may) api.Errno {
	need := func(v int) api.Errno { return errorOf(m.be[v] & (mayUnset | mayNil | mayMoved | mayDead)) }
	take := func(v int, nilable bool) api.Errno {
		if nilable {
			return errorOf(m.be[v] & (mayUnset | mayMoved | mayDead))
		}
		return need(v)
	}
	switch x := does.(type) {
	case moving:
		return take(x.b, f.p.Vars[x.a].Nilable)
	case copying:
		return take(x.b, f.p.Vars[x.a].Nilable)
	case borrowing:
		return take(x.b, f.p.Vars[x.a].Nilable)
	case loading:
		return need(x.b)
	case storing:
		if e := need(x.a); e != api.OK {
			return e
		}
		return take(x.b, true)
	case taking:
		return need(x.b)
	case freeing:
		return need(x.a)
	case using:
		return need(x.a)
	case testing:
		return take(x.a, true)
	}
	return api.OK
}

// errorOf returns the error of what a variable may be and must not.
func errorOf(be uint8) api.Errno {
	switch {
	case be&mayDead != 0:
		return ErrDead
	case be&mayMoved != 0:
		return ErrMoved
	case be != 0:
		return ErrNil
	}
	return api.OK
}

// fixed returns the first one of x, step(x), step(step(x)), .. that is followed by itself.
func fixed[T comparable](x T, step func(T) T) T {
	for {
		next := step(x)
		if next == x {
			return x
		}
		x = next
	}
}

func (f *flow) block(l []step, m may) may {
	for _, s := range l {
		m = f.step(s, m)
	}
	return m
}

// step returns what may be behind a statement.
func (f *flow) step(s step, m may) may {
	f.at[s.number] = f.at[s.number].or(m)
	switch x := s.does.(type) {
	case scoping:
		m = m.set(x.a, mayUnset)
		if f.p.Vars[x.a].Nilable {
			m = m.set(x.a, mayNil)
		}
		m = f.block(s.kids, m)
		return f.setting(m, x.a, 0)
	case testing:
		some, none := m, m
		some.be[x.a], none.be[x.a] = mayObject, mayNil
		return f.block(s.kids, some).or(f.block(s.other, none))
	case choosing:
		return f.block(s.kids, m).or(f.block(s.other, m))
	case looping:
		return f.loop(s, m)
	}
	return f.refer(s.does, m)
}

// loop returns what may be at the beginning of a loop, and so behind it. What was found there before stays, as what may be ahead of the loop only grows.
func (f *flow) loop(s step, m may) may {
	known := f.heads[s.number]
	m = m.or(known)
	if f.begun[s.number] && m == known {
		return m
	}
	f.begun[s.number] = true
	m = fixed(m, func(head may) may {
		f.heads[s.number] = head
		return head.or(f.block(s.kids, head))
	})
	return m
}

// refer returns what may be behind a statement without others in it.
func (f *flow) refer(does any, m may) may {
	switch x := does.(type) {
	case making:
		return f.setting(m, x.a, mayObject)
	case moving:
		be := taken(m.be[x.b])
		m = f.setting(m, x.b, mayMoved)
		return f.setting(m, x.a, be)
	case copying:
		vars, fields := m.vars[x.b], m.fields[x.b]
		m = f.setting(m, x.a, taken(m.be[x.b]))
		m.vars[x.a], m.fields[x.a] = vars, fields
	case borrowing:
		m = f.setting(m, x.a, taken(m.be[x.b]))
		m.vars[x.a] = f.own(x.b)
	case loading:
		vars, fields := m.vars[x.b]|f.own(x.b), m.fields[x.b]|field(f.p.Vars[x.b].Class, x.f)
		m = f.setting(m, x.a, mayNil|mayObject)
		if f.p.Vars[x.a].Kind == Borrowed {
			m.vars[x.a], m.fields[x.a] = vars, fields
		}
	case storing:
		class := f.p.Vars[x.a].Class
		kind := f.p.Classes[class][x.f].Kind
		if kind == Owned {
			m = f.setting(m, x.b, mayMoved)
		}
		if kind != Unmanaged {
			m = f.fall(m, 0, field(class, x.f))
		}
	case taking:
		m = f.fall(m, 0, field(f.p.Vars[x.b].Class, x.f))
		return f.setting(m, x.a, mayNil|mayObject)
	case clearing:
		return f.setting(m, x.a, mayNil)
	case freeing:
		m.be[x.a] = mayDead
	}
	return m
}

// taken returns what a target may be that gets the value of a variable.
func taken(be uint8) uint8 {
	got := be & mayNil
	if be&^mayNil != 0 {
		got |= mayObject
	}
	return got
}

// own returns what hangs on a variable that keeps its object alive.
func (f *flow) own(v int) uint32 {
	if isCounted(f.p.Vars[v]) {
		return 1 << v
	}
	return 0
}

func field(class, f int) uint64 { return 1 << (class*MaxFields + f) }

// setting returns what may be behind the setting, the closing or the moving away of a variable.
func (f *flow) setting(m may, v int, be uint8) may { return f.fall(m.set(v, be), f.own(v), 0) }

// fall returns what may be, when variables and fields have fallen.
func (f *flow) fall(m may, vars uint32, fields uint64) may {
	for v := range f.p.Vars {
		if m.be[v]&mayObject != 0 && (m.vars[v]&vars != 0 || m.fields[v]&fields != 0) {
			m.be[v] |= mayDead
		}
	}
	return m
}
