package param

import (
	"raddle/api"
	"raddle/check"
)

// constant is a list of constants, the last one first. One without a node hides those ahead: something else has its name.
type constant struct {
	name  string
	node  *api.Node
	ahead *constant
}

func listed(l []Const) *constant {
	var c *constant
	for _, x := range l {
		c = c.add(x.Name, x.Value)
	}
	return c
}

func (c *constant) add(name string, v api.Node) *constant { return &constant{name, &v, c} }

// hide returns the constants without those with a name.
func (c *constant) hide(name string) *constant {
	if c.find(name) == nil {
		return c
	}
	return &constant{name, nil, c}
}

func (c *constant) find(name string) *api.Node {
	for ; c != nil; c = c.ahead {
		if c.name == name {
			return c.node
		}
	}
	return nil
}

// value returns the value of a constant, whose node has the right shape.
func (c *constant) value(name string) *value {
	n := c.find(name)
	switch {
	case n == nil:
		return nil
	case n.Op == api.Bool:
		return truth(n.Num == 1)
	}
	return number(n.Num)
}

// behind returns the constants behind a statement.
func (c *constant) behind(n api.Node) *constant {
	if n.Op == api.Var {
		return c.hide(n.Name)
	}
	return c
}

// within returns the constants in the Kid of a node at an index: all but the names of a loop, in its block.
func (c *constant) within(n api.Node, kid int) *constant {
	if isLoop(n) && kid == n.Num+1 {
		for _, k := range n.Kids[:n.Num] {
			if k.Op == api.Name {
				c = c.hide(k.Name)
			}
		}
	}
	return c
}

// isLoop reports whether a node is a loop with names, what is gone through, and a block.
func isLoop(n api.Node) bool {
	loop := n.Op == api.For || n.Op == api.Forall || n.Op == api.Coforall
	return loop && n.Num >= 0 && n.Num <= 2 && len(n.Kids) >= n.Num+2
}

// stays reports whether the Kid of a node at an index is a Name that no constant replaces.
func stays(n api.Node, kid int) bool {
	place := n.Op == api.Intent || n.Op == api.Assign && kid == 0 || isLoop(n) && kid < n.Num
	return place && n.Kids[kid].Op == api.Name
}

// rebuilt returns what a function makes of nodes one after the other; it is handed what is known at each one, and returns what is known behind it.
func rebuilt[Known any](l []api.Node, known Known, step func(i int, n api.Node, known Known) (api.Node, Known)) []api.Node {
	var all []api.Node
	for i, n := range l {
		n, known = step(i, n, known)
		all = append(all, n)
	}
	return all
}

func put(n api.Node, c *constant) api.Node {
	if c == nil {
		return n
	}
	if n.Op == api.Name {
		if v := c.find(n.Name); v != nil {
			return *v
		}
	}
	n.Kids = rebuilt(n.Kids, c, func(i int, k api.Node, c *constant) (api.Node, *constant) {
		if stays(n, i) {
			return k, c
		}
		return put(k, c.within(n, i)), c.behind(k)
	})
	return n
}

func putAll(l []api.Node, c *constant) []api.Node {
	return rebuilt(l, c, func(_ int, n api.Node, c *constant) (api.Node, *constant) { return put(n, c), c.behind(n) })
}

// part is a part of an expression: with the parts that have values shortened to these, its own value, nil for none, and whether all of its nodes have the right shape (without which it has no value).
type part struct {
	short api.Node
	value *value
	right bool
}

func (v *evaluator) part(e api.Node) part {
	if !isExpr(e) {
		return part{short: e, right: true}
	}
	var parts []part
	bare, whole := e, part{short: e, right: true}
	bare.Kids, whole.short.Kids = nil, nil
	for _, k := range e.Kids {
		p := v.part(k)
		parts = append(parts, p)
		whole.short.Kids = append(whole.short.Kids, p.short)
		whole.right = whole.right && p.right
		if isExpr(k) {
			k = api.Node{Op: api.Int}
		}
		bare.Kids = append(bare.Kids, k)
	}
	whole.right = whole.right && check.Node(bare) == api.OK
	if whole.right {
		whole.value = v.operate(e, func(i int) *value { return parts[i].value })
	}
	if whole.value.stands() {
		whole.short = whole.value.node()
	}
	return whole
}
