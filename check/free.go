package check

import (
	"slices"

	"raddle/api"
)

// declared is a list of the names that a tree declares itself, where it is gone through.
type declared struct {
	name  string
	ahead *declared
}

func (d *declared) has(name string) bool {
	for ; d != nil; d = d.ahead {
		if d.name == name {
			return true
		}
	}
	return false
}

// Free returns the names of locals that a tree uses and does not declare, in the order of first uses.
func Free(t api.Node, locals []string) []string {
	search := &search{wanted: map[string]bool{}}
	for _, l := range locals {
		search.wanted[l] = true
	}
	search.node(t, nil)
	return search.found
}

// search has the names that are looked for, each with whether it was not found yet, and those that were found.
type search struct {
	wanted map[string]bool
	found  []string
}

func (s *search) node(n api.Node, d *declared) {
	if n.Op == api.Name && s.wanted[n.Name] && !d.has(n.Name) {
		s.wanted[n.Name] = false
		s.found = append(s.found, n.Name)
	}
	names, block := loopNames(n)
	for i, k := range n.Kids {
		switch {
		case i < len(names) && k.Op == api.Name:
			continue
		case i == block:
			s.node(k, s.declare(d, names...))
		default:
			s.node(k, d)
		}
		if k.Op == api.Var {
			d = s.declare(d, k)
		}
	}
}

// declare returns a list with the names of a Var, or of a loop, in it: those that are looked for are enough.
func (s *search) declare(d *declared, l ...api.Node) *declared {
	for _, n := range l {
		if _, wanted := s.wanted[n.Name]; wanted && (n.Op == api.Var || n.Op == api.Name) {
			d = &declared{n.Name, d}
		}
	}
	return d
}

// loopNames returns the names of a loop, and where its block stands; nothing and -1 for all else.
func loopNames(n api.Node) (names []api.Node, block int) {
	loop := slices.Contains([]int{api.For, api.Forall, api.Coforall}, n.Op)
	if !loop || n.Num < 0 || n.Num > 2 || len(n.Kids) < n.Num+2 {
		return nil, -1
	}
	return n.Kids[:n.Num], n.Num + 1
}
