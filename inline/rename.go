package inline

import "raddle/api"

// scope has the names that the locals of some Kids get, and the scope around it.
type scope struct {
	becomes map[string]string
	outer   *scope
}

// inside returns a scope in this one. What is inside is gone through ahead of the next local, so that a scope without locals need not be asked.
func (s *scope) inside() *scope {
	if s != nil && len(s.becomes) == 0 {
		s = s.outer
	}
	return &scope{map[string]string{}, s}
}

// find returns the name that a name gets: all but those of locals stay.
func (s *scope) find(name string) string {
	for ; s != nil; s = s.outer {
		if other, ok := s.becomes[name]; ok {
			return other
		}
	}
	return name
}

// renamer renames the locals that trees declare. With a yield, this says what a Yield becomes, whose Kid is already renamed.
type renamer struct {
	rename func(name string) string
	yield  func(n api.Node) api.Node
}

func (r renamer) tree(n api.Node, s *scope) api.Node {
	switch n.Op {
	case api.Name:
		n.Name = s.find(n.Name)
	case api.Var:
		n.Name = r.rename(n.Name)
	}
	n.Kids = r.kids(n, s)
	if n.Op == api.Yield && r.yield != nil {
		return r.yield(n)
	}
	return n
}

// kids returns the Kids of a node: a Var is visible behind it, the names of a loop are in its block.
func (r renamer) kids(n api.Node, outer *scope) []api.Node {
	if len(n.Kids) == 0 {
		return nil
	}
	all, s := make([]api.Node, len(n.Kids)), outer.inside()
	names, block := loopNames(n)
	for i, k := range n.Kids {
		switch {
		case i < len(names) && k.Op == api.Name:
			all[i] = api.Node{Op: k.Op, Name: r.rename(k.Name), Num: k.Num, Kids: r.kids(k, s)}
		case i == block:
			all[i] = r.tree(k, r.withNames(names, s))
		default:
			all[i] = r.tree(k, s)
		}
		if k.Op == api.Var {
			s.becomes[k.Name] = all[i].Name
		}
	}
	return all
}

// withNames returns a scope with the names of a loop, of which in trees of no right shape some are no Names.
func (r renamer) withNames(names []api.Node, outer *scope) *scope {
	s := outer.inside()
	for _, n := range names {
		if n.Op == api.Name {
			s.becomes[n.Name] = r.rename(n.Name)
		}
	}
	return s
}

// loopNames returns the names of a loop, and where its block stands; nothing and -1 for all else.
func loopNames(n api.Node) (names []api.Node, block int) {
	loop := n.Op == api.For || n.Op == api.Forall || n.Op == api.Coforall
	if !loop || n.Num < 0 || n.Num > 2 || len(n.Kids) < n.Num+2 {
		return nil, -1
	}
	return n.Kids[:n.Num], n.Num + 1
}

// copied returns a tree in memory of its own.
func copied(n api.Node) api.Node {
	stays := renamer{rename: func(name string) string { return name }}
	return stays.tree(n, nil)
}
