package view_test

import (
	"math"
	"slices"
	"sync"
	"testing"

	"raddle/api"
	"raddle/view"
)

var none = api.Range{Low: 1, High: 0, Stride: 1}

// row returns a range by its three fields.
func row(low, high, stride int) api.Range {
	return api.Range{Low: low, High: high, Stride: stride}
}

// of returns the domain of ranges with the map Local at home 0.
func of(l ...api.Range) api.Domain { return api.Domain{Dims: l} }

// mapped returns a domain with another map.
func mapped(d api.Domain, m api.Map) api.Domain {
	d.Map = m
	return d
}

// blocks is a map of which results tell whose they have.
var blocks = api.Map{Kind: api.BlockCyclic, Size: 3}

// numbers returns the numbers of a right ascending range.
func numbers(r api.Range) []int {
	var l []int
	for n := r.Low; n <= r.High; n += r.Stride {
		l = append(l, n)
	}
	return l
}

// indices returns the indices of a right domain in order.
func indices(d api.Domain) [][]int {
	l := [][]int{nil}
	for _, r := range d.Dims {
		var longer [][]int
		for _, index := range l {
			for _, n := range numbers(r) {
				longer = append(longer, append(slices.Clone(index), n))
			}
		}
		l = longer
	}
	return l
}

// find returns the position of an index in a list; -1 without one.
func find(l [][]int, index []int) int {
	return slices.IndexFunc(l, func(x []int) bool { return slices.Equal(x, index) })
}

// sameDomain reports whether two domains are equal in all fields.
func sameDomain(a, b api.Domain) bool { return slices.Equal(a.Dims, b.Dims) && a.Map == b.Map }

// same reports whether two views are equal in all fields.
func same(a, b view.View) bool {
	return sameDomain(a.Domain, b.Domain) && sameDomain(a.Base, b.Base) && slices.Equal(a.Axes, b.Axes)
}

// zero reports whether a view is the zero value.
func zero(v view.View) bool { return same(v, view.View{}) }

// lead returns the index of the base to which an index of a view leads.
func lead(v view.View, index []int) []int {
	var l []int
	for _, x := range v.Axes {
		n := x.From
		if x.Of >= 0 {
			n += x.Step * slices.Index(numbers(v.Domain.Dims[x.Of]), index[x.Of])
		}
		l = append(l, n)
	}
	return l
}

// positions returns the positions of the indices of a view, in order.
func positions(v view.View) []int {
	base := indices(v.Base)
	var l []int
	for _, index := range indices(v.Domain) {
		l = append(l, find(base, lead(v, index)))
	}
	return l
}

// right reports whether a view of right domains, with as many axes as its base has dimensions, is right.
func right(v view.View) bool {
	sizes, covered := []int{}, []bool{}
	for _, r := range v.Domain.Dims {
		n := len(numbers(r))
		sizes, covered = append(sizes, n), append(covered, n < 2)
	}
	list := indices(v.Domain)
	for _, x := range v.Axes {
		if x.Of < -1 || x.Of >= len(sizes) {
			return false
		}
		if x.Of >= 0 {
			covered[x.Of] = true
		}
		switch {
		case len(list) == 0:
			if x.From != 0 || x.Step != 0 {
				return false
			}
		case x.Of == -1 || sizes[x.Of] == 1:
			if x.Step != 0 {
				return false
			}
		case x.Step == 0:
			return false
		}
	}
	return !slices.Contains(covered, false) && !slices.Contains(positions(v), -1)
}

// domains returns small domains of both ranks, with and without indices.
func domains() []api.Domain {
	l := []api.Domain{}
	ranges := []api.Range{none, row(0, 0, 1), row(2, 3, 1), row(-1, 3, 2)}
	for _, r := range ranges {
		l = append(l, of(r))
		for _, q := range ranges {
			l = append(l, of(r, q))
		}
	}
	return l
}

// bases returns the domains of small arrays.
func bases() []api.Domain {
	return []api.Domain{
		of(row(0, 2, 1)),
		mapped(of(row(-2, 4, 2)), blocks),
		of(none),
		of(row(0, 2, 1), row(0, 2, 2)),
		mapped(of(row(1, 1, 1), row(0, 2, 1)), api.Map{Home: 3}),
		of(none, row(0, 1, 1)),
	}
}

// axes returns all axes of small numbers.
func axes() []view.Axis {
	var l []view.Axis
	for at := -2; at <= 2; at++ {
		for from := -1; from <= 2; from++ {
			for step := -2; step <= 2; step++ {
				l = append(l, view.Axis{Of: at, From: from, Step: step})
			}
		}
	}
	return l
}

// candidates returns views of small domains with small axes, right ones and others.
var candidates = sync.OnceValue(func() []view.View {
	var l []view.View
	for _, base := range bases() {
		for _, d := range domains() {
			d.Map = api.Map{Kind: api.Cyclic}
			for _, x := range axes() {
				if len(base.Dims) == 1 {
					l = append(l, view.View{Domain: d, Base: base, Axes: []view.Axis{x}})
					continue
				}
				for _, y := range axes() {
					if x.Of >= -1 && y.Of < 2 || x.Of == y.Of && x.From == y.From {
						l = append(l, view.View{Domain: d, Base: base, Axes: []view.Axis{x, y}})
					}
				}
			}
		}
	}
	return l
})

// rights returns those of the candidates that are right, and views of larger arrays.
var rights = sync.OnceValue(func() []view.View {
	l := slices.DeleteFunc(slices.Clone(candidates()), func(v view.View) bool { return !right(v) })
	grid := mapped(of(row(0, 8, 2), row(1, 4, 1)), blocks)
	return append(l,
		view.View{Domain: grid, Base: grid, Axes: []view.Axis{{Of: 0, From: 0, Step: 2}, {Of: 1, From: 1, Step: 1}}},
		view.View{Domain: of(row(0, 3, 1), row(0, 3, 3)), Base: grid, Axes: []view.Axis{{Of: 1, From: 6, Step: -4}, {Of: 0, From: 4, Step: -1}}},
		view.View{Domain: of(row(-3, 3, 2)), Base: grid, Axes: []view.Axis{{Of: 0, From: 8, Step: -2}, {Of: 0, From: 1, Step: 1}}},
		view.View{Domain: of(row(-3, 3, 3), row(5, 5, 1)), Base: grid, Axes: []view.Axis{{Of: 0, From: 0, Step: 4}, {Of: 1, From: 3, Step: 0}}},
	)
})

// wrongs returns views with an error for each of its reasons.
func wrongs() []view.View {
	line := of(row(0, 9, 1))
	ok := []view.Axis{{Of: 0, From: 0, Step: 1}}
	with := func(d, base api.Domain, l ...view.Axis) view.View { return view.View{Domain: d, Base: base, Axes: l} }
	long := of(row(0, 5000, 1))
	return []view.View{
		{},
		with(line, of(), ok...),
		with(of(), line, ok...),
		with(of(row(0, 9, 2)), line, ok...),
		with(of(row(0, 9, -1)), line, ok...),
		with(of(row(0, 9, 2)), line, view.Axis{}),
		with(of(row(0, 9, -1)), line, view.Axis{}),
		with(of(row(0, 0, 2)), line, view.Axis{}),
		with(of(row(0, 1000001, 1)), line, view.Axis{}),
		with(mapped(line, api.Map{Kind: 9}), line, view.Axis{}),
		with(mapped(of(row(0, 0, 1)), api.Map{Kind: 9}), line, view.Axis{}),
		with(mapped(of(none), api.Map{Kind: api.Block, Home: 1}), line, view.Axis{}),
		with(of(none, none, none), line, view.Axis{}),
		with(of(none, none, none), line, view.Axis{Of: 2}),
		with(of(), line, view.Axis{Of: -1}),
		with(of(none), of(none, none, none), view.Axis{}, view.Axis{}, view.Axis{}),
		with(of(none), of(row(0, 3, 2)), view.Axis{}),
		with(of(none), mapped(line, api.Map{Kind: 9}), view.Axis{}),
		with(of(none), long, view.Axis{}),
		with(line, of(row(0, 9, -1)), ok...),
		with(line, of(row(0, 9, 2)), ok...),
		with(mapped(line, api.Map{Kind: 9}), line, ok...),
		with(line, mapped(line, api.Map{Kind: 9}), ok...),
		with(of(row(0, 9, 1), row(0, 0, 1), row(0, 0, 1)), line, ok...),
		with(line, long, ok...),
		with(of(row(0, 0, 1)), long, view.Axis{Of: -1}),
		with(of(row(0, 70, 1), row(0, 70, 1)), of(row(0, 70, 1), row(0, 70, 1)), view.Axis{Of: 0, Step: 1}, view.Axis{Of: 1, Step: 1}),
		with(line, line),
		with(line, line, ok[0], ok[0]),
		with(line, of(row(0, 9, 1), row(0, 0, 1)), ok[0]),
		with(line, line, view.Axis{Of: 1, Step: 1}),
		with(line, line, view.Axis{Of: -2, Step: 1}),
		with(line, line, view.Axis{Of: math.MinInt, Step: 1}),
		with(line, line, view.Axis{Of: math.MaxInt, Step: 1}),
		with(line, line, view.Axis{Of: -1, From: 3}),
		with(line, line, view.Axis{Of: 0, From: 1, Step: 1}),
		with(line, line, view.Axis{Of: 0, From: 0, Step: -1}),
		with(line, line, view.Axis{Of: 0, From: 0, Step: 0}),
		with(of(row(0, 1, 1)), line, view.Axis{Of: 0, From: 0, Step: math.MinInt}),
		with(of(row(0, 1, 1)), line, view.Axis{Of: 0, From: math.MinInt, Step: math.MinInt}),
		with(of(row(0, 4, 1)), line, view.Axis{Of: 0, From: 0, Step: 1 << 62}),
		with(of(row(0, 1, 1)), line, view.Axis{Of: 0, From: math.MaxInt, Step: 1}),
		with(of(row(0, 1, 1)), line, view.Axis{Of: 0, From: math.MaxInt, Step: math.MinInt + 1}),
		with(of(row(0, 0, 1)), line, view.Axis{Of: 0, From: 10}),
		with(of(row(0, 0, 1)), line, view.Axis{Of: 0, From: 1, Step: 1}),
		with(of(none), line, view.Axis{Of: 0, From: 1}),
		with(of(none), line, view.Axis{Of: 0, Step: 1}),
		with(of(row(0, 0, 1)), of(none), view.Axis{Of: -1}),
		with(of(none, row(0, 3, 1)), line, view.Axis{Of: -1}),
	}
}

// TestCheck asks for the error of small views of all kinds, and at the limits.
func TestCheck(t *testing.T) {
	for _, v := range candidates() {
		want := view.ErrView
		if right(v) {
			want = api.OK
		}
		if e := view.Check(v); e != want {
			t.Errorf("Check(%v) = %v, want %v", v, e, want)
		}
	}
	for _, v := range wrongs() {
		if e := view.Check(v); e != view.ErrView {
			t.Errorf("Check(%v) = %v", v, e)
		}
	}
	long := of(row(-2500, 2499, 1))
	wide := of(row(-1000000, 1000000, 2000000))
	for _, v := range []view.View{
		{Domain: long, Base: long, Axes: []view.Axis{{Of: 0, From: -2500, Step: 1}}},
		{Domain: long, Base: long, Axes: []view.Axis{{Of: 0, From: 2499, Step: -1}}},
		{Domain: wide, Base: wide, Axes: []view.Axis{{Of: 0, From: -1000000, Step: 2000000}}},
		{Domain: wide, Base: wide, Axes: []view.Axis{{Of: 0, From: 1000000, Step: -2000000}}},
		{Domain: of(row(-1000000, 1000000, 1), none), Base: of(row(-1000000, 1000000, 1), none), Axes: []view.Axis{{Of: 0}, {Of: 1}}},
	} {
		if e := view.Check(v); e != api.OK {
			t.Errorf("Check(%v) = %v", v, e)
		}
	}
}

// TestWhole makes views of whole arrays.
func TestWhole(t *testing.T) {
	for _, d := range append(append(domains(), bases()...), of(row(1, 5000, 1)), of(row(0, 49, 1), row(0, 198, 2)), of(none, row(-1000000, 1000000, 1))) {
		v, e := view.Whole(d)
		if e != api.OK || view.Check(v) != api.OK || !sameDomain(v.Domain, d) || !sameDomain(v.Base, d) {
			t.Errorf("Whole(%v) = %v, %v", d, v, e)
			continue
		}
		list := indices(d)
		want := make([]view.Axis, len(d.Dims))
		for i, r := range d.Dims {
			want[i] = view.Axis{Of: i}
			if len(list) > 0 {
				want[i].From = r.Low
				if r.Low != r.High {
					want[i].Step = r.Stride
				}
			}
		}
		if !slices.Equal(v.Axes, want) {
			t.Errorf("Whole(%v) has the axes %v, want %v", d, v.Axes, want)
		}
		l, e := view.Positions(v)
		if len(l) != len(list) || e != api.OK {
			t.Errorf("Positions of Whole(%v): %d, %v", d, len(l), e)
		}
		for k, position := range l {
			if k != position {
				t.Errorf("Whole(%v) has %d at %d", d, position, k)
			}
		}
	}
	for _, c := range []struct {
		d api.Domain
		e api.Errno
	}{
		{of(), api.ErrCount},
		{of(row(0, 3, 2)), api.ErrForm},
		{of(row(0, 3, -1)), api.ErrForm},
		{of(row(0, 1000001, 1)), api.ErrRange},
		{mapped(of(row(0, 9999, 1)), api.Map{Kind: 8}), api.ErrForm},
		{of(row(0, 5000, 1)), api.ErrLarge},
		{of(row(0, 70, 1), row(0, 70, 1)), api.ErrLarge},
		{of(row(-1000000, 1000000, 1), row(-1000000, 1000000, 1)), api.ErrLarge},
	} {
		if v, e := view.Whole(c.d); !zero(v) || e != c.e {
			t.Errorf("Whole(%v) = %v, %v, want %v", c.d, v, e, c.e)
		}
	}
}

// made asks that a view has a domain, a base and the dimensions of axes, and that each index leads where a closure says, with the numbers of axes that this asks for.
func made(t *testing.T, got view.View, d, base api.Domain, dimensions []int, to func(index []int) []int) {
	t.Helper()
	list := indices(d)
	want := view.View{Domain: d, Base: base}
	for i, dimension := range dimensions {
		x := view.Axis{Of: dimension}
		if len(list) > 0 {
			x.From = to(list[0])[i]
			if dimension >= 0 && len(numbers(d.Dims[dimension])) > 1 {
				next := slices.Clone(list[0])
				next[dimension] += d.Dims[dimension].Stride
				x.Step = to(next)[i] - x.From
			}
		}
		want.Axes = append(want.Axes, x)
	}
	if !same(got, want) {
		t.Errorf("%v, want %v", got, want)
		return
	}
	if e := view.Check(got); e != api.OK {
		t.Errorf("%v has the error %v", got, e)
	}
	all := indices(base)
	for _, index := range list {
		if k, e := view.At(got, index); k != find(all, to(index)) || e != api.OK {
			t.Errorf("At(%v, %v) = %d, %v, want the position of %v", got, index, k, e, to(index))
		}
	}
}

// dimensions returns the dimensions of the axes of a view.
func dimensions(v view.View) []int {
	var l []int
	for _, x := range v.Axes {
		l = append(l, x.Of)
	}
	return l
}

// parts returns ranges some of which are within a range.
func parts(r api.Range) []api.Range {
	l := []api.Range{none, r, row(0, 0, 1), row(3, 3, 1), row(-1, 1, 2), row(-1, 3, 4), row(2, 3, 1), row(4, 8, 4), row(-3, 3, 6), row(2, 4, 2)}
	if list := numbers(r); len(list) > 2 {
		l = append(l, row(list[1], list[len(list)-1], max(1, list[len(list)-1]-list[1])))
	}
	return l
}

// slicesOf returns domains of the rank of a view, of which some are within its.
func slicesOf(v view.View) []api.Domain {
	var l []api.Domain
	for _, r := range parts(v.Domain.Dims[0]) {
		if len(v.Domain.Dims) == 1 {
			l = append(l, mapped(of(r), blocks))
			continue
		}
		for _, q := range parts(v.Domain.Dims[1]) {
			l = append(l, mapped(of(r, q), blocks))
		}
	}
	return l
}

// outside reports whether a range of a domain has a number that the range of the other one does not have.
func outside(d, other api.Domain) bool {
	for i, r := range d.Dims {
		l := numbers(other.Dims[i])
		if slices.ContainsFunc(numbers(r), func(n int) bool { return !slices.Contains(l, n) }) {
			return true
		}
	}
	return false
}

// TestSlice slices views.
func TestSlice(t *testing.T) {
	for _, v := range rights() {
		for _, d := range slicesOf(v) {
			got, e := view.Slice(v, d)
			if outside(d, v.Domain) {
				if !zero(got) || e != api.ErrBounds {
					t.Errorf("Slice(%v, %v) = %v, %v", v, d, got, e)
				}
				continue
			}
			if e != api.OK {
				t.Errorf("Slice(%v, %v): %v", v, d, e)
				continue
			}
			made(t, got, d, v.Base, dimensions(v), func(index []int) []int { return lead(v, index) })
		}
	}
}

// TestSliceOfSlice asks that a slice of a slice is the slice.
func TestSliceOfSlice(t *testing.T) {
	line, _ := view.Whole(of(row(0, 11, 1)))
	within := []api.Domain{of(row(0, 10, 2)), of(row(1, 10, 3)), of(row(4, 4, 1)), of(row(0, 8, 4)), of(none), of(row(2, 10, 4))}
	for _, first := range within {
		for _, second := range within {
			half, e := view.Slice(line, first)
			if e != api.OK || outside(second, first) {
				continue
			}
			got, e := view.Slice(half, second)
			want, f := view.Slice(line, second)
			if !same(got, want) || e != api.OK || f != api.OK {
				t.Errorf("Slice of %v and %v = %v, %v, want %v", first, second, got, e, want)
			}
		}
	}
}

// TestFix takes rows and columns.
func TestFix(t *testing.T) {
	for _, v := range rights() {
		for _, dimension := range []int{math.MinInt, -1, 0, 1, 2, math.MaxInt} {
			for _, n := range []int{math.MinInt, -3, -1, 0, 1, 2, 3, 4, 5, math.MaxInt} {
				got, e := view.Fix(v, dimension, n)
				want := api.OK
				switch {
				case len(v.Domain.Dims) == 1:
					want = api.ErrCount
				case dimension != 0 && dimension != 1:
					want = api.ErrRange
				case !slices.Contains(numbers(v.Domain.Dims[dimension]), n):
					want = api.ErrBounds
				}
				if e != want || want != api.OK && !zero(got) {
					t.Errorf("Fix(%v, %d, %d) = %v, %v, want %v", v, dimension, n, got, e, want)
				}
				if e != api.OK || want != api.OK {
					continue
				}
				left := dimensions(v)
				for i, at := range left {
					left[i] = map[int]int{-1: -1, dimension: -1, 1 - dimension: 0}[at]
				}
				d := mapped(of(v.Domain.Dims[1-dimension]), v.Domain.Map)
				made(t, got, d, v.Base, left, func(index []int) []int {
					if dimension == 0 {
						return lead(v, []int{n, index[0]})
					}
					return lead(v, []int{index[0], n})
				})
			}
		}
	}
}

// TestReindex gives views other indices, and their own again.
func TestReindex(t *testing.T) {
	for _, v := range rights() {
		for _, d := range append(domains(), slicesOf(v)...) {
			if len(d.Dims) != len(v.Domain.Dims) {
				continue
			}
			d.Map = blocks
			got, e := view.Reindex(v, d)
			fits := true
			for i, r := range d.Dims {
				fits = fits && len(numbers(r)) == len(numbers(v.Domain.Dims[i]))
			}
			if !fits {
				if !zero(got) || e != view.ErrShape {
					t.Errorf("Reindex(%v, %v) = %v, %v", v, d, got, e)
				}
				continue
			}
			if want := (view.View{Domain: d, Base: v.Base, Axes: v.Axes}); !same(got, want) || e != api.OK || view.Check(got) != api.OK {
				t.Errorf("Reindex(%v, %v) = %v, %v", v, d, got, e)
			}
			if l, e := view.Positions(got); !slices.Equal(l, positions(v)) || e != api.OK {
				t.Errorf("Reindex(%v, %v) has the positions %v", v, d, l)
			}
			if back, e := view.Reindex(got, v.Domain); !same(back, v) || e != api.OK {
				t.Errorf("Reindex(%v, %v) and back = %v, %v", v, d, back, e)
			}
		}
	}
}

// TestTranspose exchanges the dimensions of views.
func TestTranspose(t *testing.T) {
	for _, v := range rights() {
		got, e := view.Transpose(v)
		if len(v.Domain.Dims) == 1 {
			if !zero(got) || e != api.ErrCount {
				t.Errorf("Transpose(%v) = %v, %v", v, got, e)
			}
			continue
		}
		if e != api.OK {
			t.Errorf("Transpose(%v): %v", v, e)
			continue
		}
		turned := dimensions(v)
		for i, at := range turned {
			turned[i] = map[int]int{-1: -1, 0: 1, 1: 0}[at]
		}
		d := mapped(of(v.Domain.Dims[1], v.Domain.Dims[0]), v.Domain.Map)
		made(t, got, d, v.Base, turned, func(index []int) []int { return lead(v, []int{index[1], index[0]}) })
		if back, e := view.Transpose(got); !same(back, v) || e != api.OK {
			t.Errorf("Transpose(%v) and back = %v, %v", v, back, e)
		}
	}
}
