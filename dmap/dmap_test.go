package dmap_test

import (
	"math"
	"math/big"
	"slices"
	"testing"

	"raddle/api"
	"raddle/dmap"
	"raddle/domain"
)

const most = 1000000

var none = api.Range{Low: 1, High: 0, Stride: 1}

// row returns a range by its three fields.
func row(low, high, stride int) api.Range {
	return api.Range{Low: low, High: high, Stride: stride}
}

// with returns the domain of ranges with a map.
func with(m api.Map, l ...api.Range) api.Domain { return api.Domain{Dims: l, Map: m} }

// numbers returns the numbers of an ascending range.
func numbers(r api.Range) []int {
	var l []int
	for n := r.Low; n <= r.High; n += r.Stride {
		l = append(l, n)
	}
	return l
}

// indices returns the indices of a domain in order.
func indices(d api.Domain) [][]int {
	l := [][]int{nil}
	for _, r := range d.Dims {
		var longer [][]int
		for _, index := range l {
			for _, n := range numbers(r) {
				longer = append(longer, append(slices.Clone(index), n))
			}
		}
		l = longer
	}
	return l
}

// maps returns maps of all kinds that are right over a number of locales.
func maps(locales int) []api.Map {
	l := []api.Map{{Kind: api.Block}, {Kind: api.Cyclic}, {Kind: api.Hashed}}
	for home := range locales {
		l = append(l, api.Map{Kind: api.Local, Home: home})
	}
	for _, size := range []int{1, 2, 3, 4, 7, 1000} {
		l = append(l, api.Map{Kind: api.BlockCyclic, Size: size})
	}
	return l
}

// shapes returns the dimensions of domains of both ranks, of which some have no indices.
func shapes() [][]api.Range {
	var l [][]api.Range
	for n := range 20 {
		r := row(-3, -3+n-1, 1)
		switch n {
		case 0:
			r = none
		case 1:
			r.Stride = 1
		}
		l = append(l, []api.Range{r})
	}
	few := []api.Range{none, row(5, 5, 1), row(-2, 4, 3), row(0, 4, 1), row(-7, 5, 2)}
	for _, a := range few {
		for _, b := range few {
			l = append(l, []api.Range{a, b})
		}
	}
	return append(l, []api.Range{row(-most, most, most)}, []api.Range{row(100, 800, 100)}, []api.Range{row(-18, 20, 2), none})
}

// hash returns the hash of an index, by large numbers.
func hash(index []int) int {
	h, m := big.NewInt(7), big.NewInt(1000003)
	for _, x := range index {
		h.Mul(h, big.NewInt(31))
		h.Add(h, new(big.Int).Mod(big.NewInt(int64(x)), m))
		h.Mod(h, m)
	}
	return int(h.Int64())
}

// owner returns the owner of an index, as the table says.
func owner(d api.Domain, locales int, index []int) int {
	q, n := slices.Index(numbers(d.Dims[0]), index[0]), len(numbers(d.Dims[0]))
	switch d.Map.Kind {
	case api.Block:
		return q * locales / n
	case api.Cyclic:
		return q % locales
	case api.BlockCyclic:
		return q / d.Map.Size % locales
	case api.Hashed:
		return hash(index) % locales
	}
	return d.Map.Home
}

// forAll hands domains of all shapes and maps over all numbers of locales to a test, with the positions that each locale owns.
func forAll(f func(d api.Domain, locales int, parts [][]int)) {
	for locales := 1; locales <= api.MaxLocales; locales++ {
		for _, m := range maps(locales) {
			for _, dims := range shapes() {
				d := with(m, dims...)
				parts := make([][]int, locales)
				for k, index := range indices(d) {
					l := owner(d, locales, index)
					parts[l] = append(parts[l], k)
				}
				f(d, locales, parts)
			}
		}
	}
}

// TestOwners compares the owners of all indices with those of the table, and asks for indices and positions that there are not.
func TestOwners(t *testing.T) {
	forAll(func(d api.Domain, locales int, parts [][]int) {
		all := indices(d)
		for k, index := range all {
			want := owner(d, locales, index)
			if l, e := dmap.Owner(d, locales, index); l != want || e != api.OK {
				t.Errorf("Owner(%v, %d, %v) = %d, %v, want %d", d, locales, index, l, e, want)
			}
			if l, e := dmap.OwnerAt(d, locales, k); l != want || e != api.OK {
				t.Errorf("OwnerAt(%v, %d, %d) = %d, %v, want %d", d, locales, k, l, e, want)
			}
			for _, other := range [][]int{nil, index[:len(index)-1], append(slices.Clone(index), 0), append([]int{-1}, index...)} {
				if l, e := dmap.Owner(d, locales, other); l != 0 || e != api.ErrBounds {
					t.Errorf("Owner(%v, %d, %v) = %d, %v", d, locales, other, l, e)
				}
			}
		}
		for _, index := range [][]int{{}, {99}, {99, 0}, {0, 99}, {math.MinInt}, {math.MaxInt, math.MinInt}} {
			if l, e := dmap.Owner(d, locales, index); l != 0 || e != api.ErrBounds {
				t.Errorf("Owner(%v, %d, %v) = %d, %v", d, locales, index, l, e)
			}
		}
		for _, k := range []int{-1, len(all), math.MinInt, math.MaxInt} {
			if l, e := dmap.OwnerAt(d, locales, k); l != 0 || e != api.ErrBounds {
				t.Errorf("OwnerAt(%v, %d, %d) = %d, %v", d, locales, k, l, e)
			}
		}
	})
}

// TestParts compares the parts and their sizes with those of the owners: each position is in just one.
func TestParts(t *testing.T) {
	forAll(func(d api.Domain, locales int, parts [][]int) {
		counts, e := dmap.Counts(d, locales)
		if len(counts) != locales || e != api.OK {
			t.Fatalf("Counts(%v, %d) = %v, %v", d, locales, counts, e)
		}
		sum, seen := 0, map[int]bool{}
		for l, want := range parts {
			part, e := dmap.Part(d, locales, l)
			if !slices.Equal(part, want) || e != api.OK {
				t.Errorf("Part(%v, %d, %d) = %v, %v, want %v", d, locales, l, part, e, want)
			}
			if counts[l] != len(want) {
				t.Errorf("Counts(%v, %d) = %v, want %d for %d", d, locales, counts, len(want), l)
			}
			for _, k := range part {
				if seen[k] {
					t.Errorf("%v over %d: the position %d has two owners", d, locales, k)
				}
				seen[k] = true
			}
			sum += counts[l]
		}
		if sum != domain.Size(d) || len(seen) != domain.Size(d) {
			t.Errorf("Counts(%v, %d) = %v, together not %d", d, locales, counts, domain.Size(d))
		}
		for _, l := range []int{-1, locales, math.MinInt, math.MaxInt} {
			if part, e := dmap.Part(d, locales, l); len(part) != 0 || e != api.ErrRange {
				t.Errorf("Part(%v, %d, %d) = %v, %v", d, locales, l, part, e)
			}
		}
	})
}

// TestBalance asks how the parts of Block and Cyclic differ, and that one locale has all.
func TestBalance(t *testing.T) {
	forAll(func(d api.Domain, locales int, _ [][]int) {
		counts, _ := dmap.Counts(d, locales)
		columns := 1
		if len(d.Dims) == 2 {
			columns = len(numbers(d.Dims[1]))
		}
		even := d.Map.Kind == api.Block || d.Map.Kind == api.Cyclic
		if even && slices.Max(counts)-slices.Min(counts) > columns {
			t.Errorf("Counts(%v, %d) = %v", d, locales, counts)
		}
		if locales == 1 && counts[0] != domain.Size(d) {
			t.Errorf("Counts(%v, 1) = %v", d, counts)
		}
	})
}

// TestLocals asks for the local numbers of all positions, and for the positions of all local numbers.
func TestLocals(t *testing.T) {
	forAll(func(d api.Domain, locales int, parts [][]int) {
		for l, part := range parts {
			for at, k := range part {
				if locale, number, e := dmap.Local(d, locales, k); locale != l || number != at || e != api.OK {
					t.Errorf("Local(%v, %d, %d) = %d, %d, %v, want %d, %d", d, locales, k, locale, number, e, l, at)
				}
				if position, e := dmap.Global(d, locales, l, at); position != k || e != api.OK {
					t.Errorf("Global(%v, %d, %d, %d) = %d, %v, want %d", d, locales, l, at, position, e, k)
				}
			}
			for _, at := range []int{-1, len(part), math.MinInt, math.MaxInt} {
				if k, e := dmap.Global(d, locales, l, at); k != 0 || e != api.ErrBounds {
					t.Errorf("Global(%v, %d, %d, %d) = %d, %v", d, locales, l, at, k, e)
				}
			}
		}
		for _, k := range []int{-1, domain.Size(d), math.MinInt, math.MaxInt} {
			if l, at, e := dmap.Local(d, locales, k); l != 0 || at != 0 || e != api.ErrBounds {
				t.Errorf("Local(%v, %d, %d) = %d, %d, %v", d, locales, k, l, at, e)
			}
		}
		for _, l := range []int{-1, locales, math.MinInt, math.MaxInt} {
			if k, e := dmap.Global(d, locales, l, -1); k != 0 || e != api.ErrRange {
				t.Errorf("Global(%v, %d, %d, -1) = %d, %v", d, locales, l, k, e)
			}
		}
	})
}

// TestPieces compares the pieces with those of the parts, and asks that they are even.
func TestPieces(t *testing.T) {
	forAll(func(d api.Domain, locales int, parts [][]int) {
		for _, cores := range []int{1, 2, 3, 5, 8, 64} {
			var want []dmap.Piece
			for l, part := range parts {
				for k := range cores {
					if at := part[k*len(part)/cores : (k+1)*len(part)/cores]; len(at) > 0 {
						want = append(want, dmap.Piece{Locale: l, At: at})
					}
				}
			}
			pieces, e := dmap.Pieces(d, locales, cores)
			same := slices.EqualFunc(pieces, want, func(a, b dmap.Piece) bool { return a.Locale == b.Locale && slices.Equal(a.At, b.At) })
			if !same || e != api.OK {
				t.Errorf("Pieces(%v, %d, %d) = %v, %v, want %v", d, locales, cores, pieces, e, want)
			}
			laws(t, pieces, parts)
		}
		for _, cores := range []int{0, -1, 65, math.MinInt, math.MaxInt} {
			if l, e := dmap.Pieces(d, locales, cores); len(l) != 0 || e != api.ErrRange {
				t.Errorf("Pieces(%v, %d, %d) = %v, %v", d, locales, cores, l, e)
			}
		}
	})
}

// laws asks that pieces are in the order of locales, that those of a locale are its part, and that their sizes differ by one at most.
func laws(t *testing.T, pieces []dmap.Piece, parts [][]int) {
	t.Helper()
	joined := make([][]int, len(parts))
	for i, p := range pieces {
		if i > 0 && p.Locale < pieces[i-1].Locale {
			t.Errorf("the pieces %v are not in the order of locales", pieces)
		}
		for _, q := range pieces {
			if q.Locale == p.Locale && len(q.At) > len(p.At)+1 {
				t.Errorf("the pieces %v differ by more than one", pieces)
			}
		}
		joined[p.Locale] = append(joined[p.Locale], p.At...)
	}
	if !slices.EqualFunc(joined, parts, slices.Equal[[]int]) {
		t.Errorf("the pieces %v are not the parts %v", pieces, parts)
	}
}

// TestHash compares the hashes of any numbers with those by large numbers.
func TestHash(t *testing.T) {
	if h := dmap.Hash([]int{5}); h != 222 {
		t.Errorf("Hash of 5 = %d", h)
	}
	if h := dmap.Hash(nil); h != 7 {
		t.Errorf("Hash of nothing = %d", h)
	}
	far := []int{0, 1, -1, 5, 1000002, 1000003, 1000004, -1000003, -1000004, math.MaxInt, math.MaxInt - 1, math.MinInt, math.MinInt + 1}
	for _, a := range far {
		for _, b := range far {
			for _, index := range [][]int{{a}, {a, b}, {a, b, a}, {b, b, a, a, b}} {
				if h := dmap.Hash(index); h != hash(index) {
					t.Errorf("Hash(%v) = %d, want %d", index, h, hash(index))
				}
			}
		}
	}
}

// TestExamples asks for the examples.
func TestExamples(t *testing.T) {
	ten := row(0, 9, 1)
	for _, c := range []struct {
		m    api.Map
		want [][]int
	}{
		{api.Map{Kind: api.Block}, [][]int{{0, 1, 2}, {3, 4}, {5, 6, 7}, {8, 9}}},
		{api.Map{Kind: api.Cyclic}, [][]int{{0, 4, 8}, {1, 5, 9}, {2, 6}, {3, 7}}},
		{api.Map{Kind: api.BlockCyclic, Size: 2}, [][]int{{0, 1, 8, 9}, {2, 3}, {4, 5}, {6, 7}}},
		{api.Map{Kind: api.Local, Home: 2}, [][]int{{}, {}, {0, 1, 2, 3, 4, 5, 6, 7, 8, 9}, {}}},
	} {
		for l, want := range c.want {
			if part, e := dmap.Part(with(c.m, ten), 4, l); !slices.Equal(part, want) || e != api.OK {
				t.Errorf("Part of %v for %d = %v, %v, want %v", c.m, l, part, e, want)
			}
		}
	}
}
