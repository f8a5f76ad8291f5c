package dmap_test

import (
	"math"
	"slices"
	"testing"

	"raddle/api"
	"raddle/dmap"
	"raddle/domain"
)

// blocks returns the rows of the blocks of a locale, as lists of positions in the first range.
func blocks(d api.Domain, locales, locale int) [][]int {
	n := len(numbers(d.Dims[0]))
	var own []int
	for q := range n {
		if owner(d, locales, []int{numbers(d.Dims[0])[q]}) == locale {
			own = append(own, q)
		}
	}
	if d.Map.Kind != api.BlockCyclic {
		return [][]int{own}
	}
	var l [][]int
	for i, q := range own {
		if i == 0 || q%d.Map.Size == 0 {
			l = append(l, nil)
		}
		l[len(l)-1] = append(l[len(l)-1], q)
	}
	return l
}

// rangeOf returns the range with ascending numbers.
func rangeOf(l []int) api.Range {
	if len(l) == 1 {
		return row(l[0], l[0], 1)
	}
	return row(l[0], l[len(l)-1], l[1]-l[0])
}

// TestBlocks compares the domains of each locale with those of its rows, and their indices with the part.
func TestBlocks(t *testing.T) {
	forAll(func(d api.Domain, locales int, parts [][]int) {
		for l := range locales {
			got, e := dmap.Blocks(d, locales, l)
			if d.Map.Kind == api.Hashed {
				if len(got) != 0 || e != dmap.ErrMap {
					t.Errorf("Blocks(%v, %d, %d) = %v, %v", d, locales, l, got, e)
				}
				continue
			}
			var want []api.Domain
			for _, rows := range blocks(d, locales, l) {
				if len(rows) == 0 || domain.Size(d) == 0 {
					continue
				}
				var first []int
				for _, q := range rows {
					first = append(first, numbers(d.Dims[0])[q])
				}
				want = append(want, with(d.Map, append([]api.Range{rangeOf(first)}, d.Dims[1:]...)...))
			}
			if !slices.EqualFunc(got, want, same) || e != api.OK {
				t.Errorf("Blocks(%v, %d, %d) = %v, %v, want %v", d, locales, l, got, e, want)
			}
			inPart(t, d, got, parts[l])
		}
		for _, l := range []int{-1, locales, math.MinInt, math.MaxInt} {
			if got, e := dmap.Blocks(d, locales, l); len(got) != 0 || e != api.ErrRange {
				t.Errorf("Blocks(%v, %d, %d) = %v, %v", d, locales, l, got, e)
			}
		}
	})
}

// same reports whether two domains are equal in all fields.
func same(a, b api.Domain) bool { return slices.Equal(a.Dims, b.Dims) && a.Map == b.Map }

// inPart asks that domains are right, and that their indices, in order, are those of a part.
func inPart(t *testing.T, d api.Domain, blocks []api.Domain, part []int) {
	t.Helper()
	var positions []int
	for _, b := range blocks {
		if e := domain.Check(b); e != api.OK {
			t.Errorf("the block %v has the error %v", b, e)
		}
		for _, index := range domain.All(b) {
			k, ok := domain.Position(d, index[:len(d.Dims)])
			if !ok {
				t.Errorf("the block %v of %v has %v", b, d, index)
			}
			positions = append(positions, k)
		}
	}
	if !slices.Equal(positions, part) {
		t.Errorf("the blocks %v have the positions %v, want %v", blocks, positions, part)
	}
}

// TestFarBlocks asks for numbers that are farther apart than any number is from 0.
func TestFarBlocks(t *testing.T) {
	d := with(api.Map{Kind: api.Cyclic}, row(-most, most, most), row(0, 4, 2))
	got, e := dmap.Blocks(d, 2, 0)
	want := []api.Domain{with(d.Map, row(-most, most, 2*most), row(0, 4, 2))}
	if !slices.EqualFunc(got, want, same) || e != api.OK {
		t.Errorf("Blocks = %v, %v, want %v", got, e, want)
	}
	got, e = dmap.Blocks(d, 2, 1)
	want[0].Dims = []api.Range{row(0, 0, 1), row(0, 4, 2)}
	if !slices.EqualFunc(got, want, same) || e != api.OK {
		t.Errorf("Blocks = %v, %v, want %v", got, e, want)
	}
}
