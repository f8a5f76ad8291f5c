package param

import "raddle/api"

// folder takes params out of statements that have the right shape.
type folder struct{ *evaluator }

// block returns statements without params, and the constants that are known behind them.
func (f folder) block(l []api.Node, c *constant) (all []api.Node, known *constant, code api.Errno) {
statements:
	for i := 0; i < len(l) && code == api.OK; i++ {
		n := l[i]
		if n.Op == api.Var && n.Num&api.IsParam != 0 {
			v := f.param(n, c)
			if v == nil {
				code = ErrStatic
				continue statements
			}
			c = c.add(n.Name, v.node())
			continue statements
		}
		n = f.choose(n, c)
		if n.Kids, code = f.kids(n, c); code != api.OK {
			continue statements
		}
		all, c = append(all, n), c.behind(n)
	}
	if code != api.OK {
		return nil, nil, code
	}
	return all, c, api.OK
}

// param returns the value of a param, nil if it has none, or one of another type than the param.
func (f folder) param(n api.Node, c *constant) *value {
	if n.Num&api.HasInit == 0 {
		return nil
	}
	v := f.value(n.Kids[len(n.Kids)-1], c)
	if !v.stands() {
		return nil
	}
	if n.Num&api.HasType != 0 && n.Kids[0].Name != v.typeName() {
		return nil
	}
	return v
}

// choose returns what an If becomes whose condition has a value, and all other statements as they are.
func (f folder) choose(n api.Node, c *constant) api.Node {
	if n.Op != api.If {
		return n
	}
	v := f.value(n.Kids[0], c)
	switch {
	case !v.stands():
		return n
	case v.number != 0:
		return n.Kids[1]
	case len(n.Kids) == 3:
		return n.Kids[2]
	}
	return api.Node{Op: api.BlockOf}
}

// kids returns the Kids of a statement: the constants are put, and blocks have no params.
func (f folder) kids(n api.Node, c *constant) ([]api.Node, api.Errno) {
	if n.Op == api.BlockOf {
		all, _, code := f.block(n.Kids, c)
		return all, code
	}
	var all []api.Node
	for i, k := range n.Kids {
		switch {
		case k.Op == api.BlockOf:
			inside, _, code := f.block(k.Kids, c.within(n, i))
			if code != api.OK {
				return nil, code
			}
			k.Kids = inside
		case !stays(n, i):
			k = put(k, c)
		}
		all = append(all, k)
	}
	return all, api.OK
}
