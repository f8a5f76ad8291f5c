package dmap

import (
	"iter"
	"slices"

	"raddle/api"
	"raddle/domain"
	"raddle/span"
)

// modulus is what hashes are less than.
const modulus = 1000003

// Hash returns the hash of an index.
func Hash(index []int) int {
	h := 7
	for _, x := range index {
		h = (31*h + (x%modulus+modulus)%modulus) % modulus
	}
	return h
}

// pair returns an index as two numbers; the second one is 0 if it has one.
func pair(index []int) [2]int { return [2]int(append(slices.Clone(index), 0)) }

// ownerOf returns what tells the owner of an index with a position, of a domain without an error that has indices.
func ownerOf(d api.Domain, locales int) func(position int, index [2]int) int {
	rows, row := span.Size(d.Dims[0]), rowOf(d)
	return [...]func(int, [2]int) int{
		api.Local:       func(int, [2]int) int { return d.Map.Home },
		api.Block:       func(position int, _ [2]int) int { return row(position) * locales / rows },
		api.Cyclic:      func(position int, _ [2]int) int { return row(position) % locales },
		api.BlockCyclic: func(position int, _ [2]int) int { return row(position) / d.Map.Size % locales },
		api.Hashed:      func(_ int, index [2]int) int { return Hash(index[:len(d.Dims)]) % locales },
	}[d.Map.Kind]
}

// rowOf returns what tells the position, in the first range, of the first number of an index with a position.
func rowOf(d api.Domain) func(position int) int {
	if len(d.Dims) == 1 {
		return func(position int) int { return position }
	}
	columns := span.Size(d.Dims[1])
	return func(position int) int { return position / columns }
}

// owners yields the positions of a domain without an error, ascending, with their owners.
func owners(d api.Domain, locales int) iter.Seq2[int, int] {
	return func(yield func(int, int) bool) {
		owner := ownerOf(d, locales)
		for position, index := range domain.All(d) {
			if !yield(position, owner(position, index)) {
				return
			}
		}
	}
}

// list is a part: what is on one locale, in order.
type list[T any] []T

// piece returns one of several pieces of a list, whose sizes differ by one at most, as a list of its own.
func (l list[T]) piece(k, pieces int) list[T] {
	return slices.Clone(l[k*len(l)/pieces : (k+1)*len(l)/pieces])
}

// parts returns the positions that each locale owns.
func parts(d api.Domain, locales int) []list[int] {
	all := make([]list[int], locales)
	for position, locale := range owners(d, locales) {
		all[locale] = append(all[locale], position)
	}
	return all
}
