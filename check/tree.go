package check

import "raddle/api"

func tooManyFormals(f api.Proc) bool { return len(f.Formals) > maxFormals }

// isNone reports whether a formal argument has the Intent type, and no type, which then is no node.
func isNone(f api.Formal) bool {
	t := f.Type
	return f.Intent == "type" && t.Op == 0 && t.Name == "" && t.Num == 0 && len(t.Kids) == 0
}

// trees returns the trees of a program.
func trees(p api.Program) []api.Node {
	all := append([]api.Node(nil), p.Globals...)
	for _, f := range p.Procs {
		for _, a := range f.Formals {
			if !isNone(a) {
				all = append(all, a.Type)
			}
		}
		all = append(all, f.Result)
		all = append(append(all, f.Where...), f.Body...)
	}
	return all
}

// extent is how many nodes were counted, and the greatest depth of them.
type extent struct{ nodes, depth int }

// add counts the nodes of trees, and stops when there are too many: trees can share Kids, and so have more nodes than can be counted.
func (x *extent) add(l []api.Node, depth int) {
	for _, n := range l {
		if x.nodes++; x.nodes > api.MaxNodes {
			return
		}
		x.depth = max(x.depth, depth)
		x.add(n.Kids, depth+1)
	}
}

// sizeError returns the error of trees that together are too large, or too deep.
func sizeError(l []api.Node) api.Errno {
	x := extent{}
	x.add(l, 1)
	switch {
	case x.nodes > api.MaxNodes:
		return api.ErrCount
	case x.depth > api.MaxDepth:
		return api.ErrDepth
	}
	return api.OK
}

// root returns the error of a single tree.
func (s shapes) root(t api.Node) api.Errno {
	if e := sizeError([]api.Node{t}); e != api.OK {
		return e
	}
	if !isExpr(t) && !isStatement(t) && t.Op != api.Type && t.Op != api.Array || !s.right(t) {
		return api.ErrForm
	}
	return api.OK
}

// right reports whether all nodes of trees are as their rules say.
func (s shapes) right(l ...api.Node) bool {
	for _, n := range l {
		if of := s[n.Op]; of == nil || !of(n) || !s.right(n.Kids...) {
			return false
		}
	}
	return true
}

func (s shapes) program(p api.Program) bool {
	for _, g := range p.Globals {
		if g.Op != api.Var || !s.right(g) {
			return false
		}
	}
	for _, f := range p.Procs {
		if !s.procedure(f) {
			return false
		}
	}
	return true
}

func (s shapes) procedure(f api.Proc) bool {
	for _, a := range f.Formals {
		if !s.formal(a) {
			return false
		}
	}
	return isName(f.Name) && f.Result.Op == api.Type && areKids("e?", f.Where) && areKids("s*", f.Body) &&
		s.right(f.Result) && s.right(f.Where...) && s.right(f.Body...)
}

func (s shapes) formal(a api.Formal) bool {
	if !isName(a.Name) || !isOneOf("in const param type")(a.Intent) && a.Intent != "" {
		return false
	}
	if a.Intent == "type" {
		return isNone(a)
	}
	return a.Type.Op == api.Type && a.Type.Name != "void" && s.right(a.Type)
}
