package inline

import (
	"iter"
	"strings"

	"raddle/api"
)

// nodes yields the nodes of trees, each ahead of its Kids.
func nodes(l []api.Node) iter.Seq[api.Node] {
	return func(yield func(api.Node) bool) { eachNode(l, yield) }
}

func eachNode(l []api.Node, yield func(api.Node) bool) bool {
	for _, n := range l {
		if !yield(n) || !eachNode(n.Kids, yield) {
			return false
		}
	}
	return true
}

// loops yields the iterators of a program that loops in trees go through.
func loops(p api.Program, l []api.Node) iter.Seq[api.Proc] {
	return func(yield func(api.Proc) bool) {
		for n := range nodes(l) {
			if f, ok := iterator(p, n); ok && !yield(f) {
				return
			}
		}
	}
}

// count returns how many nodes a tree has.
func count(n api.Node) int {
	all := 0
	for range nodes([]api.Node{n}) {
		all++
	}
	return all
}

// The marks of iterators: not met, met and not yet done, done.
const (
	unmet = iota
	open
	done
)

// survey goes from iterators to those that they go through, and finds out how many Yields each one has: one more than the limit stands for all greater numbers.
type survey struct {
	p      api.Program
	marks  map[string]int
	yields map[string]int
}

func newSurvey(p api.Program) *survey {
	return &survey{p, map[string]int{}, map[string]int{}}
}

// everywhere goes to all iterators.
func (s *survey) everywhere() {
	for _, f := range s.p.Procs {
		if f.Iter {
			s.visit(f)
		}
	}
}

// visit leaves, if a way from an iterator leads back to it.
func (s *survey) visit(f api.Proc) {
	switch s.marks[f.Name] {
	case open:
		panic(stop(ErrRecursive))
	case unmet:
		s.marks[f.Name] = open
		for g := range loops(s.p, f.Body) {
			s.visit(g)
		}
		s.yields[f.Name] = s.count(f.Body)
		s.marks[f.Name] = done
	}
}

// count returns how many Yields statements have, where the iterators that they go through were met.
func (s *survey) count(l []api.Node) int {
	all := 0
	for _, n := range l {
		times := 1
		if f, ok := iterator(s.p, n); ok {
			times = s.yields[f.Name]
		}
		if n.Op == api.Yield {
			all++
		}
		all = min(all+times*s.count(n.Kids), api.MaxNodes+1)
	}
	return all
}

// hasMarkedName reports whether a global or a local has a name that could be one of a renamed local.
func hasMarkedName(p api.Program) bool {
	for _, g := range p.Globals {
		if isMarked(g.Name) {
			return true
		}
	}
	for _, f := range p.Procs {
		for _, a := range f.Formals {
			if isMarked(a.Name) {
				return true
			}
		}
		for n := range nodes(f.Body) {
			if declaresMarked(n) {
				return true
			}
		}
	}
	return false
}

func declaresMarked(n api.Node) bool {
	names, _ := loopNames(n)
	for _, name := range names {
		if isMarked(name.Name) {
			return true
		}
	}
	return n.Op == api.Var && isMarked(n.Name)
}

func isMarked(name string) bool {
	return strings.Contains(name, "__i") || strings.Contains(name, "__l")
}
