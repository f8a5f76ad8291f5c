package check

import (
	"slices"

	"raddle/api"
)

// procedure looks at the statements of a procedure.
type procedure struct {
	*world
	index  int
	result string
	iter   bool
}

// block looks at the statements of a block, whose own path is given.
func (c *procedure) block(l []api.Node, s *scope, path []int) {
	for i, n := range l {
		c.statement(n, s, append(slices.Clip(path), i))
	}
}

// blocks looks at the blocks of a statement, each in a scope of its own.
func (c *procedure) blocks(l []api.Node, inside func() *scope, path []int) {
	for i, b := range l {
		c.block(b.Kids, inside(), append(slices.Clip(path), i))
	}
}

func (c *procedure) statement(n api.Node, s *scope, path []int) {
	c.at = Fault{Proc: c.index, Path: path}
	switch n.Op {
	case api.Var:
		s.declare(c.variable(n, s))
	case api.Assign:
		c.assign(n, s)
	case api.If, api.While:
		c.want(n.Kids[0], s, "bool")
		c.blocks(n.Kids[1:], s.inside, path)
	case api.Assert:
		c.want(n.Kids[0], s, "bool")
	case api.For, api.Coforall, api.Forall:
		c.loop(n, s, path)
	case api.Begin, api.Cobegin:
		c.blocks(n.Kids, s.taskInside, path)
	case api.Sync:
		c.blocks(n.Kids, s.heldInside, path)
	case api.On:
		c.want(n.Kids[0], s, "int")
		c.blocks(n.Kids[1:], s.heldInside, path)
	case api.Return, api.Yield:
		c.leave(n, s)
	case api.Do:
		c.typeOf(n.Kids[0], s)
	case api.Write:
		c.write(n.Kids, s)
	case api.BlockOf:
		c.block(n.Kids, s.inside(), path)
	}
}

func (c *procedure) assign(n api.Node, s *scope) {
	target, value := n.Kids[0], n.Kids[1]
	t := ""
	if target.Op == api.Name {
		to := c.find(target.Name, s)
		switch {
		case to.Const:
			panic(stop(ErrConst))
		case isObject(to.Type):
			panic(stop(api.ErrType))
		}
		t = to.Type
	} else {
		t = c.typeOf(target, s)
	}
	c.want(value, s, t)
	if n.Name != "=" && t != "int" {
		panic(stop(api.ErrType))
	}
}

// leave looks at a Return or a Yield.
func (c *procedure) leave(n api.Node, s *scope) {
	if s.held || c.iter != (n.Op == api.Yield) {
		panic(stop(ErrPlace))
	}
	if len(n.Kids) == 0 {
		if c.result != "void" {
			panic(stop(api.ErrType))
		}
		return
	}
	c.want(n.Kids[0], s, c.result)
	if c.result == "void" {
		panic(stop(api.ErrType))
	}
}

func (c *procedure) write(l []api.Node, s *scope) {
	for _, n := range l {
		if n.Op == api.Str {
			continue
		}
		if t := c.typeOf(n, s); t != "int" && t != "bool" {
			panic(stop(api.ErrType))
		}
	}
}

func (c *procedure) loop(n api.Node, s *scope, path []int) {
	names, rest := n.Kids[:n.Num], n.Kids[n.Num:]
	element := c.elementType(n.Op, rest[0], n.Num, s)
	inner := s.inside()
	if n.Op != api.For {
		inner = s.taskInside()
	}
	for _, name := range names {
		inner.declare(Typed{Name: name.Name, Type: element, Const: true})
	}
	for _, intent := range rest[2:] {
		c.intent(intent, inner, s)
	}
	c.block(rest[1].Kids, inner.inside(), append(slices.Clip(path), 0))
}

// elementType returns the type of the names of a loop, and leaves, if it cannot go through an expression with so many names.
func (c *procedure) elementType(op int, through api.Node, names int, s *scope) string {
	if at := Find(c.p, through.Name); op == api.For && through.Op == api.Call && at >= 0 && c.p.Procs[at].Iter {
		f := c.call(through, s, true)
		if names != 1 {
			panic(stop(api.ErrType))
		}
		return f.Result.Name
	}
	want := 0
	switch t := c.typeOf(through, s); {
	case t == "range" || t == "domain1" || isArray(t) && op != api.Forall:
		want = 1
	case t == "domain2":
		want = 2
	}
	if names != want {
		panic(stop(api.ErrType))
	}
	return "int"
}

// intent looks at an Intent of the loop whose names stand in inner, and which itself stands in s.
func (c *procedure) intent(n api.Node, inner, s *scope) {
	name, want := n.Kids[0].Name, "int"
	if n.Name == "&&" || n.Name == "||" {
		want = "bool"
	}
	l, ok := s.find(name)
	isName := func(l Typed) bool { return l.Name == name }
	switch {
	case !ok:
		panic(stop(api.ErrMissing))
	case l.Const:
		panic(stop(ErrConst))
	case l.Type != want:
		panic(stop(api.ErrType))
	case slices.Contains(inner.free, name) || slices.ContainsFunc(inner.locals, isName):
		panic(stop(api.ErrDuplicate))
	}
	inner.free = append(inner.free, name)
}
