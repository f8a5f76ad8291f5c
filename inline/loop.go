package inline

import (
	"strconv"

	"raddle/api"
	"raddle/check"
)

// isObject reports whether arguments of a type are passed as they are, and not as values.
func isObject(kind string) bool {
	return kind == "sync" || kind == "atomic" || kind == "array1" || kind == "array2"
}

// through returns what a loop of the right shape goes through.
func through(loop api.Node) api.Node { return loop.Kids[loop.Num] }

// block returns the block of a loop of the right shape.
func block(loop api.Node) api.Node { return loop.Kids[loop.Num+1] }

// iterator returns the iterator that a statement of the right shape is a loop over, however many names it has: with two it is an error of a program, but not of Loop.
func iterator(p api.Program, n api.Node) (api.Proc, bool) {
	if n.Op != api.For || through(n).Op != api.Call {
		return api.Proc{}, false
	}
	at := check.Find(p, through(n).Name)
	if at < 0 || !p.Procs[at].Iter {
		return api.Proc{}, false
	}
	return p.Procs[at], true
}

func argumentsError(f api.Proc, arguments []api.Node) api.Errno {
	if len(arguments) != len(f.Formals) {
		return api.ErrCount
	}
	for i, a := range f.Formals {
		if isObject(a.Type.Name) && arguments[i].Op != api.Name {
			return api.ErrArgument
		}
	}
	return api.OK
}

// inlinedSize returns the nodes of what a loop over an iterator becomes.
func inlinedSize(f api.Proc, loop api.Node) int {
	const aroundAll, aroundArgument, aroundYield = 2, 1, 1
	size := aroundAll
	for i, a := range f.Formals {
		if !isObject(a.Type.Name) {
			size += aroundArgument + count(through(loop).Kids[i])
		}
	}
	for n := range nodes(f.Body) {
		if size++; n.Op == api.Yield {
			size += aroundYield + count(block(loop))
		}
	}
	return size
}

// inlined returns what a loop over an iterator becomes, with a number.
func inlined(f api.Proc, loop api.Node, number int) api.Node {
	suffix := "__i" + strconv.Itoa(number)
	made, formals := api.Node{Op: api.BlockOf}, (*scope)(nil).inside()
	for i, a := range f.Formals {
		argument := through(loop).Kids[i]
		if isObject(a.Type.Name) {
			formals.becomes[a.Name] = argument.Name
			continue
		}
		formals.becomes[a.Name] = a.Name + suffix
		made.Kids = append(made.Kids, value(a.Name+suffix, a.Intent != "in", copied(argument)))
	}
	r := renamer{
		rename: func(name string) string { return name + suffix },
		yield: func(n api.Node) api.Node {
			element := value(loop.Kids[0].Name, true, n.Kids[0])
			return api.Node{Op: api.BlockOf, Kids: []api.Node{element, copied(block(loop))}}
		},
	}
	made.Kids = append(made.Kids, r.tree(api.Node{Op: api.BlockOf, Kids: f.Body}, formals))
	return made
}

// value returns a Var with an initial value.
func value(name string, isConst bool, v api.Node) api.Node {
	n := api.Node{Op: api.Var, Name: name, Num: api.HasInit, Kids: []api.Node{v}}
	if isConst {
		n.Num |= api.IsConst
	}
	return n
}
