// Package irregular is layer 3: sparse and associative domains. See shared/doc/03-irregular.md.
package irregular

import (
	"slices"

	"raddle/api"
	"raddle/domain"
)

// Codes of layer 3.
const (
	ErrParent api.Errno = 50 // sparse domains of different parents
	ErrOrder  api.Errno = 51 // indices or keys that are not in order, each once
)

const (
	maxParent  = 1000000 // indices of a parent
	maxIndices = 20000   // indices from which a sparse domain is made
)

// Sparse is a sparse domain: some indices of its parent, by their positions there, ascending.
type Sparse struct {
	Parent api.Domain
	At     []int
}

// Check returns the error of a sparse domain.
func Check(s Sparse) api.Errno {
	if e := checkParent(s.Parent); e != api.OK {
		return e
	}
	if len(s.At) > api.MaxElements {
		return api.ErrCount
	}
	if !ascending(s.At, domain.Size(s.Parent)) {
		return ErrOrder
	}
	return api.OK
}

// checkParent returns the error of a parent: that of a sparse domain without indices.
func checkParent(parent api.Domain) api.Errno {
	if e := domain.Check(parent); e != api.OK {
		return e
	}
	if domain.Size(parent) > maxParent {
		return api.ErrLarge
	}
	return api.OK
}

// ascending reports whether numbers from 0 to end - 1 ascend, each once.
func ascending(l []int, end int) bool {
	ahead := -1
	for _, n := range l {
		if n <= ahead || n >= end {
			return false
		}
		ahead = n
	}
	return true
}

// Of returns the sparse domain with some indices of a parent, in any order, perhaps twice.
func Of(parent api.Domain, indices [][]int) (Sparse, api.Errno) {
	if e := checkParent(parent); e != api.OK {
		return Sparse{}, e
	}
	if len(indices) > maxIndices {
		return Sparse{}, api.ErrCount
	}
	known := map[[2]int]bool{}
	var at []int
	for _, index := range indices {
		k, ok := domain.Position(parent, index)
		if !ok {
			return Sparse{}, api.ErrBounds
		}
		if numbers := pair(index); !known[numbers] {
			known[numbers] = true
			at = append(at, k)
		}
	}
	return sorted(parent, at)
}

// pair returns the numbers of an index of the rank 1 or 2; the second one is 0 for the rank 1.
func pair(index []int) [2]int {
	if len(index) == 1 {
		return [2]int{index[0], 0}
	}
	return [2]int(index)
}

// sorted returns the sparse domain with different positions of a parent, which it sorts: api.ErrCount, if they are too many.
func sorted(parent api.Domain, at []int) (Sparse, api.Errno) {
	if len(at) > api.MaxElements {
		return Sparse{}, api.ErrCount
	}
	slices.Sort(at)
	return Sparse{Parent: with(parent, parent.Dims...), At: at}, api.OK
}

// with returns the domain of ranges with the map of d.
func with(d api.Domain, dims ...api.Range) api.Domain {
	return api.Domain{Dims: slices.Clone(dims), Map: d.Map}
}

// Indices returns the indices of a sparse domain, in order.
func Indices(s Sparse) ([][]int, api.Errno) {
	if e := Check(s); e != api.OK {
		return nil, e
	}
	var l [][]int
	for _, k := range s.At {
		index, _ := domain.Nth(s.Parent, k)
		l = append(l, index)
	}
	return l, api.OK
}

// Position returns the number of an index in a sparse domain.
func Position(s Sparse, index []int) (int, bool) {
	if Check(s) != api.OK {
		return 0, false
	}
	k, ok := domain.Position(s.Parent, index)
	if !ok {
		return 0, false
	}
	number, ok := slices.BinarySearch(s.At, k)
	if !ok {
		return 0, false
	}
	return number, true
}

// Union returns the indices of both.
func Union(a, b Sparse) (Sparse, api.Errno) {
	return combine(a, b, func(first, second bool) bool { return first || second })
}

// Both returns the indices that both have.
func Both(a, b Sparse) (Sparse, api.Errno) {
	return combine(a, b, func(first, second bool) bool { return first && second })
}

// Minus returns the indices of the first that the second does not have.
func Minus(a, b Sparse) (Sparse, api.Errno) {
	return combine(a, b, func(first, second bool) bool { return first && !second })
}

// combine returns the indices of two sparse domains of one parent that a closure keeps.
func combine(a, b Sparse, keep func(first, second bool) bool) (Sparse, api.Errno) {
	if e := Check(a); e != api.OK {
		return Sparse{}, e
	}
	if e := Check(b); e != api.OK {
		return Sparse{}, e
	}
	if !slices.Equal(a.Parent.Dims, b.Parent.Dims) || a.Parent.Map != b.Parent.Map {
		return Sparse{}, ErrParent
	}
	return sorted(a.Parent, merge(a.At, b.At, keep))
}

// Within returns the indices of a sparse domain that are in a domain, in which they stand for a sparse domain of the intersection.
func Within(s Sparse, d api.Domain) (Sparse, api.Errno) {
	if e := Check(s); e != api.OK {
		return Sparse{}, e
	}
	if e := domain.Check(d); e != api.OK {
		return Sparse{}, e
	}
	parent, e := domain.Intersect(s.Parent, d)
	if e != api.OK {
		return Sparse{}, e
	}
	if e := checkParent(parent); e != api.OK {
		return Sparse{}, e
	}
	var at []int
	for _, k := range s.At {
		index, _ := domain.Nth(s.Parent, k)
		if inside, ok := domain.Position(parent, index); ok {
			at = append(at, inside)
		}
	}
	return sorted(parent, at)
}
