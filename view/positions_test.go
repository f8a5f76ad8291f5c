package view_test

import (
	"math"
	"slices"
	"testing"

	"raddle/api"
	"raddle/view"
)

// runs returns positions as runs: neighbours that follow each other belong together.
func runs(l []int) [][2]int {
	var out [][2]int
	for i, k := range l {
		if i > 0 && l[i-1]+1 == k {
			out[len(out)-1][1]++
		} else {
			out = append(out, [2]int{k, 1})
		}
	}
	return out
}

// TestPositions compares positions and runs with what axes say.
func TestPositions(t *testing.T) {
	for _, v := range rights() {
		want := positions(v)
		l, e := view.Positions(v)
		if !slices.Equal(l, want) || e != api.OK {
			t.Errorf("Positions(%v) = %v, %v, want %v", v, l, e, want)
		}
		if sorted := slices.Sorted(slices.Values(l)); len(slices.Compact(sorted)) != len(want) {
			t.Errorf("Positions(%v) = %v: not all different", v, l)
		}
		if l, e := view.Runs(v); !slices.Equal(l, runs(want)) || e != api.OK {
			t.Errorf("Runs(%v) = %v, %v, want %v", v, l, e, runs(want))
		}
		for k, index := range indices(v.Domain) {
			if at, e := view.At(v, index); at != want[k] || e != api.OK {
				t.Errorf("At(%v, %v) = %d, %v, want %d", v, index, at, e, want[k])
			}
		}
		for _, index := range [][]int{nil, {}, {1}, {-7}, {0, 1}, {1, 0}, {0, 0, 0}, {math.MinInt}, {math.MaxInt, 0}} {
			if find(indices(v.Domain), index) >= 0 {
				continue
			}
			if at, e := view.At(v, index); at != 0 || e != api.ErrBounds {
				t.Errorf("At(%v, %v) = %d, %v", v, index, at, e)
			}
		}
	}
}

// TestExamples asks for the examples.
func TestExamples(t *testing.T) {
	line, _ := view.Whole(of(row(0, 5, 1)))
	odd, _ := view.Slice(line, of(row(1, 5, 2)))
	if l, e := view.Positions(odd); !slices.Equal(l, []int{1, 3, 5}) || e != api.OK {
		t.Errorf("Positions = %v, %v", l, e)
	}
	if l, e := view.Runs(odd); !slices.Equal(l, [][2]int{{1, 1}, {3, 1}, {5, 1}}) || e != api.OK {
		t.Errorf("Runs = %v, %v", l, e)
	}
	again, _ := view.Reindex(odd, of(row(0, 2, 1)))
	if k, e := view.At(again, []int{2}); k != 5 || e != api.OK {
		t.Errorf("At = %d, %v", k, e)
	}
	grid, _ := view.Whole(of(row(0, 1, 1), row(0, 2, 1)))
	second, _ := view.Fix(grid, 0, 1)
	if l, e := view.Runs(second); !slices.Equal(l, [][2]int{{3, 3}}) || e != api.OK {
		t.Errorf("Runs of a row = %v, %v", l, e)
	}
	if l, e := view.Runs(grid); !slices.Equal(l, [][2]int{{0, 6}}) || e != api.OK {
		t.Errorf("Runs of all = %v, %v", l, e)
	}
}

// TestOverlap compares the least common position of two views with that of lists.
func TestOverlap(t *testing.T) {
	all := rights()
	for i, a := range all {
		for j, b := range all {
			// Each view meets a seventh of the others: all pairs would take long.
			if (i+j)%7 != 0 {
				continue
			}
			k, ok, e := view.Overlap(a, b)
			if !sameDomain(a.Base, b.Base) {
				if k != 0 || ok || e != view.ErrShape {
					t.Errorf("Overlap(%v, %v) = %d, %v, %v", a, b, k, ok, e)
				}
				continue
			}
			other := positions(b)
			both := slices.DeleteFunc(positions(a), func(k int) bool { return !slices.Contains(other, k) })
			least := 0
			if len(both) > 0 {
				least = slices.Min(both)
			}
			if k != least || ok != (len(both) > 0) || e != api.OK {
				t.Errorf("Overlap(%v, %v) = %d, %v, %v, want the least of %v", a, b, k, ok, e, both)
			}
		}
	}
}

// TestOverlapShape asks for views whose bases differ in one field.
func TestOverlapShape(t *testing.T) {
	base := of(row(0, 3, 1))
	v, _ := view.Whole(base)
	for _, d := range []api.Domain{
		of(row(0, 4, 1)), of(row(1, 4, 1)), of(row(0, 6, 2)), of(row(0, 3, 1), row(0, 0, 1)),
		mapped(base, api.Map{Home: 1}), mapped(base, api.Map{Kind: api.Hashed}), mapped(base, blocks),
	} {
		w, _ := view.Whole(d)
		for _, pair := range [][2]view.View{{v, w}, {w, v}} {
			if k, ok, e := view.Overlap(pair[0], pair[1]); k != 0 || ok || e != view.ErrShape {
				t.Errorf("Overlap(%v, %v) = %d, %v, %v", pair[0], pair[1], k, ok, e)
			}
		}
	}
	other, _ := view.Whole(mapped(base, blocks))
	moved, _ := view.Slice(v, mapped(of(row(2, 3, 1)), blocks))
	if k, ok, e := view.Overlap(v, moved); k != 2 || !ok || e != api.OK {
		t.Errorf("Overlap of views with different maps of their own = %d, %v, %v", k, ok, e)
	}
	if k, ok, e := view.Overlap(other, moved); k != 0 || ok || e != view.ErrShape {
		t.Errorf("Overlap of arrays with different maps = %d, %v, %v", k, ok, e)
	}
}

// TestElements writes through views, and reads through them.
func TestElements(t *testing.T) {
	for _, v := range rights() {
		at := positions(v)
		var elements, values, want []int
		for k := range indices(v.Base) {
			elements = append(elements, 100+k)
		}
		after := slices.Clone(elements)
		for i, k := range at {
			values = append(values, 900-i)
			want = append(want, elements[k])
			after[k] = 900 - i
		}
		before := slices.Clone(elements)
		if l, e := view.Get(v, elements); !slices.Equal(l, want) || e != api.OK {
			t.Errorf("Get(%v) = %v, %v, want %v", v, l, e, want)
		}
		l, e := view.Put(v, elements, values)
		if !slices.Equal(l, after) || e != api.OK {
			t.Errorf("Put(%v) = %v, %v, want %v", v, l, e, after)
		}
		if !slices.Equal(elements, before) {
			t.Errorf("Put(%v) changed its argument to %v", v, elements)
		}
		if l, e := view.Get(v, l); !slices.Equal(l, values) || e != api.OK {
			t.Errorf("Get(%v) of what was put = %v, %v, want %v", v, l, e, values)
		}
		counts(t, v, elements, values)
	}
}

// counts asks for lists that have too few or too many elements.
func counts(t *testing.T, v view.View, elements, values []int) {
	t.Helper()
	more, longer := append(slices.Clone(elements), 1), append(slices.Clone(values), 1)
	for _, c := range [][2][]int{{more, values}, {elements, longer}, {more, longer}} {
		if l, e := view.Put(v, c[0], c[1]); len(l) != 0 || e != api.ErrCount {
			t.Errorf("Put(%v, %v, %v) = %v, %v", v, c[0], c[1], l, e)
		}
	}
	if l, e := view.Get(v, more); len(l) != 0 || e != api.ErrCount {
		t.Errorf("Get(%v, %v) = %v, %v", v, more, l, e)
	}
	if len(elements) > 0 {
		l, e := view.Get(v, elements[1:])
		p, f := view.Put(v, elements[1:], values)
		if len(l) != 0 || e != api.ErrCount || len(p) != 0 || f != api.ErrCount {
			t.Errorf("Get and Put of too few elements: %v, %v, %v, %v", l, e, p, f)
		}
	}
	if len(values) > 0 {
		if l, e := view.Put(v, elements, values[1:]); len(l) != 0 || e != api.ErrCount {
			t.Errorf("Put of too few values: %v, %v", l, e)
		}
	}
}

// TestSharedElements reads through one view what was written through another one.
func TestSharedElements(t *testing.T) {
	grid, _ := view.Whole(of(row(0, 3, 1), row(0, 4, 1)))
	turned, _ := view.Transpose(grid)
	column, _ := view.Fix(grid, 1, 2)
	same, _ := view.Fix(turned, 0, 2)
	l, e := view.Put(column, make([]int, 20), []int{5, 6, 7, 8})
	if e != api.OK {
		t.Fatalf("Put: %v", e)
	}
	if got, e := view.Get(same, l); !slices.Equal(got, []int{5, 6, 7, 8}) || e != api.OK {
		t.Errorf("Get = %v, %v", got, e)
	}
	for i := range 4 {
		line, _ := view.Fix(grid, 0, i)
		if got, e := view.Get(line, l); !slices.Equal(got, []int{0, 0, 5 + i, 0, 0}) || e != api.OK {
			t.Errorf("Get of the row %d = %v, %v", i, got, e)
		}
	}
}

// TestErrors hands wrong views, and then wrong domains, to every function.
func TestErrors(t *testing.T) {
	ok, _ := view.Whole(of(row(0, 5, 1)))
	bad := of(row(0, 3, 2), none)
	for _, v := range wrongs() {
		k, e := view.At(v, nil)
		if k != 0 || e != view.ErrView {
			t.Errorf("At(%v) = %d, %v", v, k, e)
		}
		for name, f := range map[string]func() (view.View, api.Errno){
			"Slice":     func() (view.View, api.Errno) { return view.Slice(v, bad) },
			"Fix":       func() (view.View, api.Errno) { return view.Fix(v, 7, 7) },
			"Reindex":   func() (view.View, api.Errno) { return view.Reindex(v, bad) },
			"Transpose": func() (view.View, api.Errno) { return view.Transpose(v) },
		} {
			if got, e := f(); !zero(got) || e != view.ErrView {
				t.Errorf("%s(%v) = %v, %v", name, v, got, e)
			}
		}
		l, e := view.Positions(v)
		r, f := view.Runs(v)
		if len(l) != 0 || e != view.ErrView || len(r) != 0 || f != view.ErrView {
			t.Errorf("Positions(%v) = %v, %v; Runs = %v, %v", v, l, e, r, f)
		}
		g, e := view.Get(v, nil)
		p, f := view.Put(v, nil, nil)
		if len(g) != 0 || e != view.ErrView || len(p) != 0 || f != view.ErrView {
			t.Errorf("Get(%v) = %v, %v; Put = %v, %v", v, g, e, p, f)
		}
		for _, pair := range [][2]view.View{{v, ok}, {ok, v}, {v, v}} {
			if k, ok, e := view.Overlap(pair[0], pair[1]); k != 0 || ok || e != view.ErrView {
				t.Errorf("Overlap(%v, %v) = %d, %v, %v", pair[0], pair[1], k, ok, e)
			}
		}
	}
}

// TestDomainErrors hands domains that are wrong, or of another rank, to Slice and Reindex.
func TestDomainErrors(t *testing.T) {
	line, _ := view.Whole(of(row(0, 5, 1)))
	grid, _ := view.Whole(of(row(0, 1, 1), row(0, 2, 1)))
	for _, c := range []struct {
		v view.View
		d api.Domain
		e api.Errno
	}{
		{line, of(), api.ErrCount},
		{line, of(row(0, 3, 2), none), api.ErrForm},
		{line, of(row(0, 3, -1)), api.ErrForm},
		{line, of(row(0, 1000001, 1)), api.ErrRange},
		{line, mapped(of(row(0, 9, 1)), api.Map{Kind: 6}), api.ErrForm},
		{line, of(row(7, 9, 1), none), api.ErrCount},
		{grid, of(row(7, 9, 1)), api.ErrCount},
		{grid, of(row(0, 1, 1), row(0, 1000001, 1)), api.ErrRange},
	} {
		if got, e := view.Slice(c.v, c.d); !zero(got) || e != c.e {
			t.Errorf("Slice(%v, %v) = %v, %v, want %v", c.v, c.d, got, e, c.e)
		}
		if got, e := view.Reindex(c.v, c.d); !zero(got) || e != c.e {
			t.Errorf("Reindex(%v, %v) = %v, %v, want %v", c.v, c.d, got, e, c.e)
		}
	}
	if got, e := view.Slice(grid, of(none, row(0, 3, 1))); !zero(got) || e != api.ErrBounds {
		t.Errorf("Slice without indices, with a number outside = %v, %v", got, e)
	}
}

// TestArguments asks that arguments and what stands behind their ends stay.
func TestArguments(t *testing.T) {
	dims, base := []api.Range{row(0, 1, 1), row(0, 2, 1), row(7, 7, 1)}, []api.Range{row(0, 1, 1), row(0, 2, 1), row(8, 8, 1)}
	axes := []view.Axis{{Of: 0, From: 0, Step: 1}, {Of: 1, From: 0, Step: 1}, {Of: 9, From: 9, Step: 9}}
	elements, values := []int{1, 2, 3, 4, 5, 6, 77}, []int{11, 12, 13, 14, 15, 16, 88}
	v := view.View{Domain: of(dims[:2]...), Base: of(base[:2]...), Axes: axes[:2]}
	before := view.View{Domain: of(slices.Clone(dims)...), Base: of(slices.Clone(base)...), Axes: slices.Clone(axes)}
	view.Whole(v.Domain)
	view.Slice(v, of(row(0, 0, 1), row(0, 2, 2)))
	view.Slice(v, v.Domain)
	view.Fix(v, 0, 1)
	view.Fix(v, 1, 1)
	view.Reindex(v, of(row(5, 6, 1), row(5, 7, 1)))
	view.Transpose(v)
	view.Positions(v)
	view.Runs(v)
	view.Overlap(v, v)
	view.Get(v, elements[:6])
	view.Put(v, elements[:6], values[:6])
	if !same(view.View{Domain: of(dims...), Base: of(base...), Axes: axes}, before) {
		t.Errorf("arguments changed: %v, %v, %v", dims, base, axes)
	}
	if !slices.Equal(elements, []int{1, 2, 3, 4, 5, 6, 77}) || !slices.Equal(values, []int{11, 12, 13, 14, 15, 16, 88}) {
		t.Errorf("arguments changed: %v, %v", elements, values)
	}
}
