package domain_test

import (
	"math"
	"slices"
	"testing"

	"raddle/api"
	"raddle/domain"
	"raddle/span"
)

// blocks and home are maps of which results have the first one.
var (
	blocks = api.Map{Kind: api.BlockCyclic, Size: 3}
	home   = api.Map{Home: 5}
)

// TestMoves compares what is done in each dimension with what layer 1 does.
func TestMoves(t *testing.T) {
	of1 := map[string]func(api.Range, int) (api.Range, api.Errno){"Translate": span.Translate, "Expand": span.Expand, "Interior": span.Interior, "Exterior": span.Exterior}
	stays := map[string]bool{"Interior": true, "Exterior": true}
	numbers := []int{math.MinInt, -most, -3, -2, -1, 0, 1, 2, 4, most, math.MaxInt}
	for _, d := range domains(-1, 2) {
		d.Map = blocks
		for name, f := range moves() {
			for _, m := range numbers {
				for _, n := range numbers {
					by := []int{m, n}[:len(d.Dims)]
					want, wantE := mapped(of(), blocks), api.OK
					for i, r := range d.Dims {
						if by[i] != 0 || !stays[name] {
							var e api.Errno
							if r, e = of1[name](r, by[i]); wantE == api.OK {
								wantE = e
							}
						}
						want.Dims = append(want.Dims, r)
					}
					if wantE != api.OK {
						want = api.Domain{}
					}
					if got, e := f(d, by); !same(got, want) || e != wantE {
						t.Errorf("%s(%v, %v) = %v, %v, want %v, %v", name, d, by, got, e, want, wantE)
					}
				}
			}
		}
	}
}

// TestMovesCount asks for lists that have not as many numbers as the rank.
func TestMovesCount(t *testing.T) {
	for name, f := range moves() {
		for _, d := range []api.Domain{of(row(0, 4, 2)), of(row(0, 4, 2), row(0, 1, 1))} {
			for _, by := range [][]int{nil, {}, {0}, {most * 3}, {0, 0}, {most * 3, 0}, {0, 0, 0}, {most * 3, 0, 0}} {
				got, e := f(d, by)
				if len(by) != len(d.Dims) && (!zero(got) || e != api.ErrCount) {
					t.Errorf("%s(%v, %v) = %v, %v", name, d, by, got, e)
				}
				if len(by) == len(d.Dims) && by[0] == 0 && e != api.OK {
					t.Errorf("%s(%v, %v): %v", name, d, by, e)
				}
			}
		}
	}
}

// TestMovesExamples asks for some results in full.
func TestMovesExamples(t *testing.T) {
	d := of(row(0, 8, 2), row(1, 3, 1))
	for _, c := range []struct {
		name string
		by   []int
		want api.Domain
		e    api.Errno
	}{
		{"Translate", []int{5, -1}, of(row(5, 13, 2), row(0, 2, 1)), api.OK},
		{"Translate", []int{0, most - 2}, api.Domain{}, api.ErrRange},
		{"Expand", []int{1, -1}, of(row(-2, 10, 2), row(2, 2, 1)), api.OK},
		{"Expand", []int{-3, 0}, of(none, row(1, 3, 1)), api.OK},
		{"Interior", []int{2, -1}, of(row(6, 8, 2), row(1, 1, 1)), api.OK},
		{"Interior", []int{0, 2}, of(row(0, 8, 2), row(2, 3, 1)), api.OK},
		{"Interior", []int{-2, 0}, of(row(0, 2, 2), row(1, 3, 1)), api.OK},
		{"Interior", []int{0, 4}, api.Domain{}, api.ErrCount},
		{"Exterior", []int{2, 0}, of(row(10, 12, 2), row(1, 3, 1)), api.OK},
		{"Exterior", []int{0, 0}, d, api.OK},
		{"Exterior", []int{-1, 3}, of(row(-2, -2, 1), row(4, 6, 1)), api.OK},
		{"Exterior", []int{0, most}, api.Domain{}, api.ErrRange},
	} {
		if got, e := moves()[c.name](d, c.by); !same(got, c.want) || e != c.e {
			t.Errorf("%s(%v, %v) = %v, %v, want %v, %v", c.name, d, c.by, got, e, c.want, c.e)
		}
	}
}

// TestParts asks for the laws of a domain and its parts.
func TestParts(t *testing.T) {
	for _, d := range domains(-1, 2) {
		for m := -2; m <= 2; m++ {
			for n := -2; n <= 2; n++ {
				by := []int{m, n}[:len(d.Dims)]
				if grown, e := domain.Expand(d, by); e == api.OK && slices.Min(by) >= 0 {
					opposite := []int{-m, -n}[:len(d.Dims)]
					if back, e := domain.Expand(grown, opposite); !same(back, d) || e != api.OK {
						t.Errorf("Expand(%v, %v) and back = %v, %v", d, by, back, e)
					}
				}
				if inside, e := domain.Interior(d, by); e == api.OK {
					if ok, e := domain.Within(inside, d); !ok || e != api.OK {
						t.Errorf("Interior(%v, %v) = %v", d, by, inside)
					}
				}
				outside, e := domain.Exterior(d, by)
				both, f := domain.Intersect(outside, d)
				if moved := slices.ContainsFunc(by, func(n int) bool { return n != 0 }); e != api.OK || f != api.OK || moved && domain.Size(both) != 0 {
					t.Errorf("Exterior(%v, %v) = %v, %v", d, by, outside, e)
				}
			}
		}
	}
}

// TestPairs compares the operations of all pairs of small domains with those of lists.
func TestPairs(t *testing.T) {
	all := domains(0, 3)
	for _, a := range all {
		a.Map = blocks
		list := indices(a)
		for _, b := range all {
			if len(a.Dims) != len(b.Dims) {
				continue
			}
			b.Map = home
			other := indices(b)
			both := slices.DeleteFunc(slices.Clone(list), func(x []int) bool { return !has(other, x) })
			got, e := domain.Intersect(a, b)
			if e != api.OK || got.Map != blocks || !equal(indices(got), both) || domain.Check(got) != api.OK {
				t.Errorf("Intersect(%v, %v) = %v, %v", a, b, got, e)
			}
			if ok, e := domain.Within(a, b); ok != (len(both) == len(list)) || e != api.OK {
				t.Errorf("Within(%v, %v) = %v, %v", a, b, ok, e)
			}
			if ok := domain.Same(a, b); ok != equal(list, other) {
				t.Errorf("Same(%v, %v) = %v", a, b, ok)
			}
			rest, e := domain.Subtract(a, b)
			if e != api.OK || !slices.EqualFunc(rest, left(a, b), same) {
				t.Errorf("Subtract(%v, %v) = %v, %v, want %v", a, b, rest, e, left(a, b))
			}
			divided(t, a, append(rest, got))
		}
	}
}

// equal reports whether two lists have the same indices in the same order.
func equal(a, b [][]int) bool { return slices.EqualFunc(a, b, slices.Equal) }

// left returns the domains of Subtract, as its description says.
func left(a, b api.Domain) []api.Domain {
	list, other := indices(a), indices(b)
	if len(list) == 0 {
		return nil
	}
	if !slices.ContainsFunc(list, func(x []int) bool { return has(other, x) }) {
		return []api.Domain{a}
	}
	var l []api.Domain
	first, _ := span.Subtract(a.Dims[0], b.Dims[0])
	for _, r := range first {
		l = append(l, mapped(of(append([]api.Range{r}, a.Dims[1:]...)...), a.Map))
	}
	if len(a.Dims) == 2 {
		both, _ := span.Intersect(a.Dims[0], b.Dims[0])
		second, _ := span.Subtract(a.Dims[1], b.Dims[1])
		for _, r := range second {
			l = append(l, mapped(of(both, r), a.Map))
		}
	}
	return l
}

// divided asks that domains are right, and have the indices of a, each once; all but the last one have some.
func divided(t *testing.T, a api.Domain, parts []api.Domain) {
	t.Helper()
	var all [][]int
	for i, d := range parts {
		if domain.Check(d) != api.OK || i < len(parts)-1 && domain.Size(d) == 0 {
			t.Errorf("%v is no part of %v", d, a)
		}
		all = append(all, indices(d)...)
	}
	slices.SortFunc(all, slices.Compare)
	if !equal(all, indices(a)) {
		t.Errorf("%v are not the parts of %v", parts, a)
	}
}

// TestSubtract asks for the example, and for the greatest lists.
func TestSubtract(t *testing.T) {
	square, point := of(row(0, 2, 1), row(0, 2, 1)), of(row(1, 1, 1), row(1, 1, 1))
	want := []api.Domain{
		of(row(0, 0, 1), row(0, 2, 1)),
		of(row(2, 2, 1), row(0, 2, 1)),
		of(row(1, 1, 1), row(0, 0, 1)),
		of(row(1, 1, 1), row(2, 2, 1)),
	}
	if l, e := domain.Subtract(square, point); !slices.EqualFunc(l, want, same) || e != api.OK {
		t.Errorf("Subtract = %v, %v, want %v", l, e, want)
	}
	long, far, few := row(0, 2004, 1), row(0, 2004, 1002), row(0, 2002, 1001)
	some, whole := row(0, 2, 1), row(0, 2002, 1)
	for _, c := range []struct {
		a, b api.Domain
		want int
		e    api.Errno
	}{
		{of(long), of(far), 0, api.ErrLarge},
		{of(whole), of(few), 1000, api.OK},
		{of(long, some), of(far, some), 0, api.ErrLarge},
		{of(some, long), of(some, far), 0, api.ErrLarge},
		{of(whole, whole), of(few, few), 2000, api.OK},
		{of(long, some), of(far, row(3, 4, 1)), 1, api.OK},
		{of(some, long), of(row(3, 4, 1), far), 1, api.OK},
		{of(long, some), of(far, none), 1, api.OK},
		{of(long, none), of(far, some), 0, api.OK},
		{of(none, long), of(none, far), 0, api.OK},
	} {
		if l, e := domain.Subtract(c.a, c.b); len(l) != c.want || e != c.e {
			t.Errorf("Subtract(%v, %v) = %d domains, %v, want %d, %v", c.a, c.b, len(l), e, c.want, c.e)
		}
	}
}

// TestSame compares domains whose maps differ, and those without indices.
func TestSame(t *testing.T) {
	line, empty := of(row(0, 4, 2)), of(none)
	for _, c := range []struct {
		a, b api.Domain
		want bool
	}{
		{line, mapped(line, blocks), true},
		{line, of(row(0, 4, 1)), false},
		{line, of(row(0, 4, 2), row(0, 0, 1)), false},
		{empty, mapped(empty, home), true},
		{empty, of(none, none), false},
		{of(none, row(0, 4, 2)), of(row(7, 7, 1), none), true},
		{of(none, row(0, 4, 2)), of(row(7, 7, 1), row(0, 4, 2)), false},
		{of(row(0, 1, 1), row(0, 2, 1)), of(row(0, 2, 1), row(0, 1, 1)), false},
		{line, of(row(0, 4, -2)), false},
		{api.Domain{}, api.Domain{}, false},
		{mapped(line, api.Map{Kind: 9}), mapped(line, api.Map{Kind: 9}), false},
		{of(row(0, 1, 2)), of(row(0, 1, 2)), false},
	} {
		if domain.Same(c.a, c.b) != c.want || domain.Same(c.b, c.a) != c.want {
			t.Errorf("Same(%v, %v) = %v", c.a, c.b, !c.want)
		}
	}
}

// TestWithin asks for the laws of domains within each other.
func TestWithin(t *testing.T) {
	all := domains(0, 2)
	within := func(a, b api.Domain) bool {
		ok, e := domain.Within(a, b)
		return ok && e == api.OK
	}
	for _, a := range all {
		if !within(a, a) {
			t.Errorf("%v is not within itself", a)
		}
		for _, b := range all {
			for _, c := range all {
				if within(a, b) && within(b, c) && !within(a, c) {
					t.Errorf("%v is within %v, this within %v", a, b, c)
				}
			}
		}
	}
}

// TestArguments asks that arguments and what stands behind their ends stay.
func TestArguments(t *testing.T) {
	behind := row(7, 7, 1)
	store, other := []api.Range{row(0, 9, 1), row(0, 6, 2), behind}, []api.Range{row(2, 4, 1), row(0, 6, 3), behind}
	numbers := []int{1, 2, 99}
	for rank := 1; rank <= 2; rank++ {
		a, b := of(store[:rank]...), of(other[:rank]...)
		domain.Of(store[:rank])
		domain.Intersect(a, b)
		domain.Subtract(a, b)
		domain.Within(a, b)
		domain.Nth(a, 3)
		for range domain.All(a) {
		}
		for _, f := range moves() {
			f(a, numbers[:rank])
		}
	}
	if !slices.Equal(store, []api.Range{row(0, 9, 1), row(0, 6, 2), behind}) || !slices.Equal(other, []api.Range{row(2, 4, 1), row(0, 6, 3), behind}) || !slices.Equal(numbers, []int{1, 2, 99}) {
		t.Errorf("arguments changed: %v, %v, %v", store, other, numbers)
	}
}
