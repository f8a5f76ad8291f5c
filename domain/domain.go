// Package domain is layer 2: rectangular domains of one or two dimensions. See shared/doc/02-domain.md.
package domain

import (
	"iter"
	"slices"

	"raddle/api"
	"raddle/span"
)

// maxBlock is the greatest size of the blocks of a map.
const maxBlock = 1000

// Of returns the domain of ranges, which become ascending, all on the locale 0.
func Of(l []api.Range) (api.Domain, api.Errno) {
	if !ranked(l) {
		return api.Domain{}, api.ErrCount
	}
	return each(api.Domain{Dims: l}, func(i int) (api.Range, api.Errno) {
		if l[i].Stride < 0 {
			return span.By(l[i], -1)
		}
		return l[i], span.Check(l[i])
	})
}

// Check returns the error of a domain.
func Check(d api.Domain) api.Errno {
	if !ranked(d.Dims) {
		return api.ErrCount
	}
	e := api.OK
dimensions:
	for _, r := range d.Dims {
		e = span.Check(r)
		switch {
		case e != api.OK:
			break dimensions
		case r.Stride < 0:
			e = api.ErrForm
			break dimensions
		}
	}
	if e == api.OK && !placed(d.Map) {
		return api.ErrForm
	}
	return e
}

// ranked reports whether there are as many ranges as a domain may have.
func ranked(l []api.Range) bool { return len(l) == 1 || len(l) == 2 }

// placed reports whether a map is right.
func placed(m api.Map) bool {
	switch m.Kind {
	case api.Local:
		return m.Size == 0 && m.Home >= 0 && m.Home < api.MaxLocales
	case api.Block, api.Cyclic, api.Hashed:
		return m.Size == 0 && m.Home == 0
	case api.BlockCyclic:
		return m.Size >= 1 && m.Size <= maxBlock && m.Home == 0
	}
	return false
}

// Size returns the number of indices.
func Size(d api.Domain) int {
	if Check(d) != api.OK {
		return 0
	}
	return product(d.Dims)
}

// product returns the number of indices of the domain of right ranges.
func product(l []api.Range) int {
	n := 1
	for _, r := range l {
		n *= span.Size(r)
	}
	return n
}

// Has reports whether an index is in a domain.
func Has(d api.Domain, index []int) bool {
	_, ok := Position(d, index)
	return ok
}

// Nth returns the index with a position, in row-major order from 0 on.
func Nth(d api.Domain, k int) ([]int, api.Errno) {
	if e := Check(d); e != api.OK {
		return nil, e
	}
	if k < 0 || k >= product(d.Dims) {
		return nil, api.ErrRange
	}
	index := make([]int, len(d.Dims))
	for i, r := range slices.Backward(d.Dims) {
		size := span.Size(r)
		index[i], _ = span.Nth(r, k%size)
		k /= size
	}
	return index, api.OK
}

// Position returns the position of an index.
func Position(d api.Domain, index []int) (int, bool) {
	if Check(d) != api.OK || len(index) != len(d.Dims) {
		return 0, false
	}
	position := 0
	for i, r := range d.Dims {
		k, ok := span.Position(r, index[i])
		if !ok {
			return 0, false
		}
		position = position*span.Size(r) + k
	}
	return position, true
}

// All yields the positions and the indices in order; the second number of an index of one dimension is 0.
func All(d api.Domain) iter.Seq2[int, [2]int] {
	return func(yield func(int, [2]int) bool) {
		// Many numbers of the first dimension lead to nothing, if the second one has none.
		if Size(d) == 0 {
			return
		}
		// A dimension of the single number 0 stands for the one that is missing.
		dims := append(slices.Clone(d.Dims), api.Range{Stride: 1})
		index, k := []int{0, 0}, 0
		for index[0] = range span.All(dims[0]) {
			for index[1] = range span.All(dims[1]) {
				if !yield(k, [2]int(index)) {
					return
				}
				k++
			}
		}
	}
}

// Same reports whether two domains have the same indices, whatever their maps.
func Same(a, b api.Domain) bool {
	if checkBoth(a, b) != api.OK {
		return false
	}
	return product(a.Dims) == 0 && product(b.Dims) == 0 || slices.Equal(a.Dims, b.Dims)
}
