package syntax

import (
	"slices"
	"strings"

	"raddle/api"
	"raddle/token"
)

func (r *reader) expr() api.Node {
	if r.accept("if") {
		condition := r.expr()
		r.expect("then")
		yes := r.expr()
		r.expect("else")
		return api.Node{Op: api.Cond, Kids: []api.Node{condition, yes, r.expr()}}
	}
	if op := r.acceptOne(strings.Fields(reduceWords)); op != "" {
		r.expect("reduce")
		return api.Node{Op: api.Reduce, Name: op, Kids: []api.Node{r.expr()}}
	}
	return r.binary()
}

// binary reads operands and the operators between them: level reads those of a level and of tighter ones.
func (r *reader) binary() api.Node {
	operators := levels()
	next := func() int {
		return slices.IndexFunc(operators[:], func(l []string) bool { return slices.Contains(l, r.word()) })
	}
	var level func(loosest int) api.Node
	level = func(loosest int) api.Node {
		left, tightest := r.prefix(), prefixLevel
		for {
			k := next()
			if k < loosest || k > tightest || k == rangeLevel && k == tightest {
				return left
			}
			left, tightest = r.joined(left, k, level), k
		}
	}
	return level(1)
}

// joined reads an operator of a level, and what stands on the right of it.
func (r *reader) joined(left api.Node, level int, operand func(int) api.Node) api.Node {
	op := r.word()
	r.at++
	n, right := api.Node{Op: api.Binary, Name: op}, level+1
	switch op {
	case "dmapped":
		return r.mapped(left)
	case "..":
		n = api.Node{Op: api.RangeOf}
	case "by":
		n, right = api.Node{Op: api.By}, sumLevel
	case "#":
		n, right = api.Node{Op: api.Count}, sumLevel
	}
	n.Kids = []api.Node{left, operand(right)}
	return n
}

// mapped reads the map of a domain from behind dmapped.
func (r *reader) mapped(domain api.Node) api.Node {
	n := api.Node{Op: api.Mapped, Kids: []api.Node{domain}}
	n.Name = r.acceptOne(strings.Fields(mapWords))
	if n.Name == "" {
		r.expect("blockcyclic")
		r.expect("(")
		n.Name = "blockcyclic"
		n.Kids = append(n.Kids, r.expr())
		r.expect(")")
	}
	return n
}

func (r *reader) prefix() api.Node {
	if r.isBelow() {
		n := api.Node{Op: api.Int, Num: -r.peek(1).Value}
		r.at += 2
		return n
	}
	if op := r.acceptOne([]string{"-", "!"}); op != "" {
		return api.Node{Op: api.Unary, Name: op, Kids: []api.Node{r.prefix()}}
	}
	return r.postfix()
}

// isBelow reports whether an Int below 0 is next: a minus and a number that is not the beginning of a postfix.
func (r *reader) isBelow() bool {
	if r.word() != "-" || r.peek(1).Kind != token.Number {
		return false
	}
	behind := wordOf(r.peek(2))
	return behind != "." && behind != "["
}

func (r *reader) postfix() api.Node {
	n := r.primary()
	for {
		switch {
		case r.accept("["):
			n = api.Node{Op: api.Index, Kids: append([]api.Node{n}, r.oneOrTwo("]")...)}
		case r.accept("."):
			n = r.part(n)
		default:
			return n
		}
	}
}

// oneOrTwo reads one or two expressions, and the bracket that closes them.
func (r *reader) oneOrTwo(closing string) []api.Node {
	l := []api.Node{r.expr()}
	if r.accept(",") {
		l = append(l, r.expr())
	}
	r.expect(closing)
	return l
}

// part reads a field or a method of a node from behind the point.
func (r *reader) part(n api.Node) api.Node {
	t := r.peek(0)
	switch {
	case t.Kind == token.String:
	case isField(t.Text):
		r.at++
		return api.Node{Op: api.Field, Name: t.Text, Kids: []api.Node{n}}
	case isMethod(t.Text):
		r.at++
		m := api.Node{Op: api.Method, Name: t.Text, Kids: []api.Node{n}}
		r.expect("(")
		r.enclosed(func() { m.Kids = append(m.Kids, r.expr()) })
		return m
	}
	r.fail()
	return api.Node{}
}

func (r *reader) primary() api.Node {
	t := r.peek(0)
	switch {
	case t.Kind == token.Number:
		r.at++
		return api.Node{Op: api.Int, Num: t.Value}
	case t.Kind == token.Name:
		return r.named()
	case r.accept("true"):
		return api.Node{Op: api.Bool, Num: 1}
	case r.accept("false"):
		return api.Node{Op: api.Bool}
	case r.accept("here"):
		return api.Node{Op: api.Here}
	case r.accept("numLocales"):
		return api.Node{Op: api.NumLocales}
	case r.accept("{"):
		return api.Node{Op: api.DomainOf, Kids: r.oneOrTwo("}")}
	}
	r.expect("(")
	n := r.expr()
	r.expect(")")
	return n
}

// named reads a name, perhaps with that of a member, or a call.
func (r *reader) named() api.Node {
	n := api.Node{Op: api.Name, Name: r.name()}
	if r.word() == "." && r.peek(1).Kind == token.Name && isMember(r.peek(1).Text) {
		r.at++
		n.Name += "." + r.name()
	}
	if r.accept("(") {
		n.Op = api.Call
		r.enclosed(func() { n.Kids = append(n.Kids, r.argument()) })
	}
	return n
}

func (r *reader) argument() api.Node {
	if n, ok := r.basic(); ok {
		return n
	}
	return r.expr()
}
