package dmap_test

import (
	"math"
	"slices"
	"testing"

	"raddle/api"
	"raddle/dmap"
)

// wrong is a domain with an error over a number of locales.
type wrong struct {
	d       api.Domain
	locales int
	want    api.Errno
}

// wrongs returns domains with errors, of which some have several.
func wrongs() []wrong {
	ten := row(0, 9, 1)
	local := func(home int) api.Map { return api.Map{Home: home} }
	l := []wrong{
		{with(local(0)), 1, api.ErrCount},
		{with(local(0), ten, ten, ten), 1, api.ErrCount},
		{with(local(7), row(0, 9, 2)), 1, api.ErrForm},
		{with(local(7), row(0, 9, -1)), 1, api.ErrForm},
		{with(local(0), ten, row(0, most+1, 1)), 8, api.ErrRange},
		{with(local(8), ten), 8, api.ErrForm},
		{with(local(-1), ten), 8, api.ErrForm},
		{with(api.Map{Kind: 5}, ten), 8, api.ErrForm},
		{with(api.Map{Kind: -1}, ten), 8, api.ErrForm},
		{with(api.Map{Kind: api.Block, Home: 1}, ten), 1, api.ErrForm},
		{with(api.Map{Kind: api.BlockCyclic}, ten), 1, api.ErrForm},
		{with(local(1), ten), 1, dmap.ErrMap},
		{with(local(7), ten, none), 7, dmap.ErrMap},
		{with(local(7), row(-most, most, 1)), 4, dmap.ErrMap},
	}
	for _, locales := range []int{0, -1, 9, math.MinInt, math.MaxInt} {
		l = append(l, wrong{with(local(0), ten), locales, api.ErrRange}, wrong{with(local(7)), locales, api.ErrRange}, wrong{with(local(0), row(0, most, 1)), locales, api.ErrRange})
	}
	return l
}

// TestErrors asks every function for the errors of a domain, ahead of all others.
func TestErrors(t *testing.T) {
	for _, w := range wrongs() {
		if e := dmap.Check(w.d, w.locales); e != w.want {
			t.Errorf("Check(%v, %d) = %v, want %v", w.d, w.locales, e, w.want)
		}
		for _, index := range [][]int{{3}, nil} {
			if l, e := dmap.Owner(w.d, w.locales, index); l != 0 || e != w.want {
				t.Errorf("Owner(%v, %d, %v) = %d, %v, want %v", w.d, w.locales, index, l, e, w.want)
			}
		}
		for _, k := range []int{1, -1} {
			if l, e := dmap.OwnerAt(w.d, w.locales, k); l != 0 || e != w.want {
				t.Errorf("OwnerAt(%v, %d, %d) = %d, %v, want %v", w.d, w.locales, k, l, e, w.want)
			}
		}
		lists(t, w)
	}
}

// TestNoErrors asks Check for domains without one.
func TestNoErrors(t *testing.T) {
	forAll(func(d api.Domain, locales int, _ [][]int) {
		if e := dmap.Check(d, locales); e != api.OK {
			t.Errorf("Check(%v, %d) = %v", d, locales, e)
		}
	})
}

// lists asks the functions with lists of positions for an error, with right and with wrong further arguments.
func lists(t *testing.T, w wrong) {
	t.Helper()
	for _, n := range []int{0, 1, -1, 100} {
		if l, e := dmap.Part(w.d, w.locales, n); len(l) != 0 || e != w.want {
			t.Errorf("Part(%v, %d, %d) = %v, %v, want %v", w.d, w.locales, n, l, e, w.want)
		}
		if l, at, e := dmap.Local(w.d, w.locales, n); l != 0 || at != 0 || e != w.want {
			t.Errorf("Local(%v, %d, %d) = %d, %d, %v, want %v", w.d, w.locales, n, l, at, e, w.want)
		}
		if k, e := dmap.Global(w.d, w.locales, n, n); k != 0 || e != w.want {
			t.Errorf("Global(%v, %d, %d, %d) = %d, %v, want %v", w.d, w.locales, n, n, k, e, w.want)
		}
		if l, e := dmap.Pieces(w.d, w.locales, n); len(l) != 0 || e != w.want {
			t.Errorf("Pieces(%v, %d, %d) = %v, %v, want %v", w.d, w.locales, n, l, e, w.want)
		}
		if l, e := dmap.Blocks(w.d, w.locales, n); len(l) != 0 || e != w.want {
			t.Errorf("Blocks(%v, %d, %d) = %v, %v, want %v", w.d, w.locales, n, l, e, w.want)
		}
	}
	if l, e := dmap.Counts(w.d, w.locales); len(l) != 0 || e != w.want {
		t.Errorf("Counts(%v, %d) = %v, %v, want %v", w.d, w.locales, l, e, w.want)
	}
}

// TestLarge asks for the limit of lists, which Owner and OwnerAt do not have.
func TestLarge(t *testing.T) {
	for _, m := range maps(8) {
		for _, dims := range [][]api.Range{
			{row(1, 5001, 1)}, {row(0, 5000, 5000), row(1, 2501, 1)}, {row(-most, most, 1), row(-most, most, 1)}, {row(-most, most, 2)},
		} {
			lists(t, wrong{with(m, dims...), 8, api.ErrLarge})
		}
		greatest(t, with(m, row(1, 5000, 1)), 5000)
		greatest(t, with(m, row(1, 50, 1), row(3, 300, 3)), 5000)
		greatest(t, with(m, row(-most, most, 1), none), 0)
	}
}

// greatest asks for the lists of a domain with a number of indices.
func greatest(t *testing.T, d api.Domain, indices int) {
	t.Helper()
	counts, e := dmap.Counts(d, 8)
	if len(counts) != 8 || e != api.OK {
		t.Errorf("Counts(%v, 8) = %v, %v", d, counts, e)
	}
	for l, n := range counts {
		part, e := dmap.Part(d, 8, l)
		if len(part) != n || e != api.OK {
			t.Errorf("Part(%v, 8, %d) has %d positions, %v, want %d", d, l, len(part), e, n)
		}
		indices -= n
	}
	if indices != 0 {
		t.Errorf("Counts(%v, 8) = %v, which leaves %d", d, counts, indices)
	}
	pieces, e := dmap.Pieces(d, 8, 64)
	for _, p := range pieces {
		counts[p.Locale] -= len(p.At)
	}
	if e != api.OK || slices.ContainsFunc(counts, func(n int) bool { return n != 0 }) {
		t.Errorf("Pieces(%v, 8, 64) = %d pieces, %v, which leave %v", d, len(pieces), e, counts)
	}
}

// TestWide asks for owners in domains with very many indices.
func TestWide(t *testing.T) {
	wide := []api.Range{row(-most, most, 1), row(-most, most, 1)}
	const n = 2*most + 1
	for _, c := range []struct {
		m          api.Map
		row, owner int
	}{
		{api.Map{Home: 3}, 5, 3},
		{api.Map{Kind: api.Block}, 0, 0},
		{api.Map{Kind: api.Block}, n - 1, 6},
		{api.Map{Kind: api.Block}, 285714, 0},
		{api.Map{Kind: api.Block}, 285715, 1},
		{api.Map{Kind: api.Cyclic}, n - 1, 2000000 % 7},
		{api.Map{Kind: api.BlockCyclic, Size: 1000}, 999, 0},
		{api.Map{Kind: api.BlockCyclic, Size: 1000}, 1000, 1},
		{api.Map{Kind: api.BlockCyclic, Size: 1000}, n - 1, 2000 % 7},
		{api.Map{Kind: api.Hashed}, 17, hash([]int{17 - most, 12 - most}) % 7},
	} {
		d := with(c.m, wide...)
		index := []int{c.row - most, 12 - most}
		if l, e := dmap.Owner(d, 7, index); l != c.owner || e != api.OK {
			t.Errorf("Owner of %v by %v = %d, %v, want %d", index, c.m, l, e, c.owner)
		}
		if l, e := dmap.OwnerAt(d, 7, c.row*n+12); l != c.owner || e != api.OK {
			t.Errorf("OwnerAt of the row %d by %v = %d, %v, want %d", c.row, c.m, l, e, c.owner)
		}
		if l, e := dmap.OwnerAt(d, 7, n*n); l != 0 || e != api.ErrBounds {
			t.Errorf("OwnerAt behind the last position = %d, %v", l, e)
		}
	}
}

// TestArguments asks that no function changes its arguments, nor what is behind them.
func TestArguments(t *testing.T) {
	dims := []api.Range{row(0, 8, 2), row(1, 3, 1), row(7, 7, 7), row(8, 8, 8)}
	index := []int{4, 2, 77, 78}
	for _, m := range maps(4) {
		d := with(m, dims[:2]...)
		dmap.Owner(d, 4, index[:2])
		dmap.Owner(with(m, dims[:1]...), 4, index[:1])
		dmap.Hash(index[:2])
		for l := range 4 {
			dmap.Part(d, 4, l)
			dmap.Blocks(d, 4, l)
			dmap.Blocks(with(m, dims[:1]...), 4, l)
			dmap.Global(d, 4, l, 0)
		}
		dmap.Pieces(d, 4, 2)
		dmap.Local(d, 4, 5)
	}
	if !slices.Equal(dims, []api.Range{row(0, 8, 2), row(1, 3, 1), row(7, 7, 7), row(8, 8, 8)}) || !slices.Equal(index, []int{4, 2, 77, 78}) {
		t.Errorf("the arguments have become %v and %v", dims, index)
	}
}
