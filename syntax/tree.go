package syntax

import (
	"iter"
	"math"
	"slices"

	"raddle/api"
)

// Equal reports whether lists of modules are equal; Same whether nodes are.
func Equal(a, b []Module) bool {
	c := comparison{}
	return slices.EqualFunc(a, b, func(x, y Module) bool {
		return x.Name == y.Name && slices.EqualFunc(x.Uses, y.Uses, equalUses) &&
			slices.EqualFunc(x.Globals, y.Globals, c.globals) && slices.EqualFunc(x.Procs, y.Procs, c.procs)
	})
}

func Same(a, b api.Node) bool { return comparison{}.nodes(a, b) }

func equalUses(a, b Use) bool {
	return a.Kind == b.Kind && a.Module == b.Module && a.As == b.As && slices.Equal(a.Names, b.Names)
}

// kids is a list of Kids in memory, and pair two lists of the same length.
type (
	kids struct {
		first *api.Node
		n     int
	}
	pair struct{ a, b kids }
)

func kidsOf(n api.Node) kids { return kids{&n.Kids[0], len(n.Kids)} }

// comparison has the pairs of Kids that were begun: each is compared once, so that trees that share Kids, or stand in themselves, take no longer than their memory is.
type comparison map[pair]bool

func (c comparison) nodes(a, b api.Node) bool {
	if a.Op != b.Op || a.Name != b.Name || a.Num != b.Num || len(a.Kids) != len(b.Kids) {
		return false
	}
	if len(a.Kids) == 0 {
		return true
	}
	both := pair{kidsOf(a), kidsOf(b)}
	if both.a == both.b || c[both] {
		return true
	}
	c[both] = true
	return slices.EqualFunc(a.Kids, b.Kids, c.nodes)
}

func (c comparison) globals(a, b Global) bool {
	return a.Private == b.Private && c.nodes(a.Var, b.Var)
}

func (c comparison) procs(a, b api.Proc) bool {
	return a.Name == b.Name && a.Iter == b.Iter && a.Private == b.Private &&
		slices.EqualFunc(a.Formals, b.Formals, c.formals) && c.nodes(a.Result, b.Result) &&
		slices.EqualFunc(a.Where, b.Where, c.nodes) && slices.EqualFunc(a.Body, b.Body, c.nodes)
}

func (c comparison) formals(a, b api.Formal) bool {
	return a.Intent == b.Intent && a.Name == b.Name && c.nodes(a.Type, b.Type)
}

// Nodes returns the number of nodes of modules, and the greatest depth.
func Nodes(l []Module) (nodes, depth int) { return size(trees(l)) }

// Size returns the number of nodes of a tree, and its depth.
func Size(n api.Node) (nodes, depth int) { return size([]api.Node{n}) }

// trees returns the trees of modules.
func trees(l []Module) []api.Node {
	var all []api.Node
	for _, m := range l {
		for _, g := range m.Globals {
			all = append(all, g.Var)
		}
		for _, p := range m.Procs {
			for _, f := range p.Formals {
				if f.Intent != "type" {
					all = append(all, f.Type)
				}
			}
			all = append(all, p.Result)
			all = append(append(all, p.Where...), p.Body...)
		}
	}
	return all
}

// walk yields the nodes of trees, each ahead of its Kids, with their depths.
func walk(l []api.Node) iter.Seq2[int, api.Node] {
	return func(yield func(int, api.Node) bool) {
		var visit func(depth int, l []api.Node) bool
		visit = func(depth int, l []api.Node) bool {
			for _, n := range l {
				if !yield(depth, n) || !visit(depth+1, n.Kids) {
					return false
				}
			}
			return true
		}
		visit(1, l)
	}
}

// count counts the nodes of trees, up to one more than most, and says whether these were all.
func count(l []api.Node, most int) (nodes, depth int, all bool) {
	for at := range walk(l) {
		nodes++
		depth = max(depth, at)
		if nodes > most {
			return nodes, depth, false
		}
	}
	return nodes, depth, true
}

// size counts the nodes of trees. Trees that share Kids can have more of them than can be gone through one by one.
func size(l []api.Node) (nodes, depth int) {
	const soon = 1 << 16
	nodes, depth, all := count(l, soon)
	if all {
		return nodes, depth
	}
	whole := extents{}.list(l)
	return whole.nodes, whole.depth
}

type extent struct{ nodes, depth int }

// extents has what is known of lists of Kids: each is gone through once. A list that stands in itself has no end, and the greatest int as its numbers, as have those that have too many nodes for an int.
type extents map[kids]extent

func (known extents) list(l []api.Node) extent {
	all := extent{}
	for _, n := range l {
		below := known.below(n)
		all.nodes = sum(all.nodes, sum(below.nodes, 1))
		all.depth = max(all.depth, sum(below.depth, 1))
	}
	return all
}

func (known extents) below(n api.Node) extent {
	if len(n.Kids) == 0 {
		return extent{}
	}
	k := kidsOf(n)
	if x, ok := known[k]; ok {
		return x
	}
	known[k] = extent{math.MaxInt, math.MaxInt}
	known[k] = known.list(n.Kids)
	return known[k]
}

// sum adds numbers from 0 on, up to the greatest int.
func sum(a, b int) int {
	if a > math.MaxInt-b {
		return math.MaxInt
	}
	return a + b
}
