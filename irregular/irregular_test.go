package irregular_test

import (
	"math"
	"slices"
	"testing"

	"raddle/api"
	"raddle/domain"
	"raddle/irregular"
)

var none = api.Range{Low: 1, High: 0, Stride: 1}

// row returns a range by its three fields.
func row(low, high, stride int) api.Range {
	return api.Range{Low: low, High: high, Stride: stride}
}

// of returns the domain of ranges with the map Local at home 0.
func of(l ...api.Range) api.Domain { return api.Domain{Dims: l} }

// mapped returns a domain with another map.
func mapped(d api.Domain, m api.Map) api.Domain {
	d.Map = m
	return d
}

// sparse returns the sparse domain with some positions of a parent.
func sparse(parent api.Domain, at ...int) irregular.Sparse {
	return irregular.Sparse{Parent: parent, At: at}
}

// same reports whether two sparse domains are equal in all fields.
func same(a, b irregular.Sparse) bool {
	return slices.Equal(a.Parent.Dims, b.Parent.Dims) && a.Parent.Map == b.Parent.Map && slices.Equal(a.At, b.At)
}

// zero reports whether a sparse domain is the zero value.
func zero(s irregular.Sparse) bool { return same(s, irregular.Sparse{}) }

// count returns the numbers from low to high.
func count(low, high int) []int {
	var l []int
	for n := low; n <= high; n++ {
		l = append(l, n)
	}
	return l
}

// indices returns the indices of a right domain in order.
func indices(d api.Domain) [][]int {
	l := [][]int{nil}
	for _, r := range d.Dims {
		var longer [][]int
		for _, index := range l {
			for n := r.Low; n <= r.High; n += r.Stride {
				longer = append(longer, append(slices.Clone(index), n))
			}
		}
		l = longer
	}
	return l
}

// picked returns the elements of a list at some positions.
func picked[T any](l []T, at []int) []T {
	var some []T
	for _, k := range at {
		some = append(some, l[k])
	}
	return some
}

// subsets returns all ascending lists of numbers from 0 to n - 1.
func subsets(n int) [][]int {
	var l [][]int
	for bits := range 1 << n {
		var some []int
		for k := range n {
			if bits>>k&1 == 1 {
				some = append(some, k)
			}
		}
		l = append(l, some)
	}
	return l
}

// equal reports whether two lists have the same lists in the same order.
func equal(a, b [][]int) bool { return slices.EqualFunc(a, b, slices.Equal) }

// kept returns the sorted elements of two lists that a closure keeps.
func kept[T int | string](a, b []T, keep func(first, second bool) bool) []T {
	l := slices.Concat(a, b)
	slices.Sort(l)
	return slices.DeleteFunc(slices.Compact(l), func(x T) bool {
		return !keep(slices.Contains(a, x), slices.Contains(b, x))
	})
}

// parents returns domains of both ranks with six indices, with one, and without any.
func parents() []api.Domain {
	return []api.Domain{
		of(row(0, 5, 1)),
		of(row(-7, 3, 2)),
		of(row(0, 1, 1), row(0, 2, 1)),
		mapped(of(row(2, 8, 3), row(-1, 1, 2)), api.Map{Kind: api.Block}),
		mapped(of(row(4, 4, 1), row(-10, 0, 2)), api.Map{Home: 3}),
		mapped(of(row(0, 5, 1), row(9, 9, 1)), api.Map{Kind: api.BlockCyclic, Size: 2}),
		of(row(3, 3, 1)),
		of(none),
		of(none, row(0, 4, 1)),
		of(row(0, 4, 1), none),
	}
}

// sparses returns all sparse domains of the parents.
func sparses() []irregular.Sparse {
	var l []irregular.Sparse
	for _, parent := range parents() {
		for _, at := range subsets(len(indices(parent))) {
			l = append(l, sparse(parent, at...))
		}
	}
	return l
}

// wrong is a sparse domain with an error.
type wrong struct {
	s irregular.Sparse
	e api.Errno
}

// wrongs returns sparse domains with an error, some with another one that comes later.
func wrongs() []wrong {
	form, huge, right := of(row(0, 3, 2)), of(row(0, 1000000, 1)), of(row(0, 5000, 1))
	return []wrong{
		{irregular.Sparse{}, api.ErrCount},
		{sparse(form), api.ErrForm},
		{sparse(of(row(0, 1000001, 1))), api.ErrRange},
		{sparse(of(row(0, 4, -2))), api.ErrForm},
		{sparse(mapped(right, api.Map{Kind: 7})), api.ErrForm},
		{sparse(form, count(0, 5000)...), api.ErrForm},
		{sparse(huge), api.ErrLarge},
		{sparse(of(row(0, 999, 1), row(0, 1000, 1))), api.ErrLarge},
		{sparse(of(row(-1000000, 1000000, 1), row(-1000000, 1000000, 1))), api.ErrLarge},
		{sparse(huge, count(0, 5000)...), api.ErrLarge},
		{sparse(huge, 1, 1), api.ErrLarge},
		{sparse(right, count(0, 5000)...), api.ErrCount},
		{sparse(right, count(-1, 4999)...), api.ErrCount},
		{sparse(right, make([]int, 5001)...), api.ErrCount},
		{sparse(right, 5001), irregular.ErrOrder},
		{sparse(right, -1), irregular.ErrOrder},
		{sparse(right, 0, -1), irregular.ErrOrder},
		{sparse(right, 3, 3), irregular.ErrOrder},
		{sparse(right, 0, 0), irregular.ErrOrder},
		{sparse(right, 3, 4, 2), irregular.ErrOrder},
		{sparse(right, math.MinInt), irregular.ErrOrder},
		{sparse(right, 0, math.MaxInt), irregular.ErrOrder},
		{sparse(of(none), 0), irregular.ErrOrder},
	}
}

// TestCheck asks for errors, and for the greatest sparse domains.
func TestCheck(t *testing.T) {
	for _, w := range wrongs() {
		if e := irregular.Check(w.s); e != w.e {
			t.Errorf("Check(%v, %d) = %v, want %v", w.s.Parent, len(w.s.At), e, w.e)
		}
	}
	for _, s := range append(sparses(),
		sparse(of(row(0, 5000, 1)), count(1, 5000)...),
		sparse(of(row(0, 999999, 1)), 0, 999999),
		sparse(of(row(1, 1000, 1), row(1, 1000, 1)), 999999),
		sparse(of(row(-1000000, 1000000, 1), none)),
	) {
		if e := irregular.Check(s); e != api.OK {
			t.Errorf("Check(%v) = %v", s, e)
		}
	}
}

// TestOf makes sparse domains of indices in several orders.
func TestOf(t *testing.T) {
	for _, s := range sparses() {
		l := picked(indices(s.Parent), s.At)
		back := slices.Clone(l)
		slices.Reverse(back)
		for _, order := range [][][]int{l, back, slices.Concat(l, l), slices.Concat(back, l, back)} {
			if got, e := irregular.Of(s.Parent, order); !same(got, s) || e != api.OK {
				t.Errorf("Of(%v, %v) = %v, %v, want %v", s.Parent, order, got, e, s.At)
			}
		}
	}
}

// TestOfErrors asks for the errors of Of, in their order.
func TestOfErrors(t *testing.T) {
	line, grid := of(row(0, 29999, 3)), of(row(0, 2, 1), row(0, 3, 1))
	some := func(n, different int) [][]int {
		var l [][]int
		for k := range n {
			l = append(l, []int{k % different * 3})
		}
		return l
	}
	for _, c := range []struct {
		parent  api.Domain
		indices [][]int
		size    int
		e       api.Errno
	}{
		{of(row(0, 29997, 3)), some(5000, 5000), 5000, api.OK},
		{of(row(0, 29997, 3)), some(20000, 5000), 5000, api.OK},
		{of(row(0, 29997, 3)), some(20000, 1), 1, api.OK},
		{of(row(0, 29997, 3)), some(5001, 5001), 0, api.ErrCount},
		{of(row(0, 29997, 3)), some(20001, 1), 0, api.ErrCount},
		{of(row(0, 29997, 3)), append([][]int{{1}}, some(20000, 1)...), 0, api.ErrCount},
		{of(row(0, 29997, 3)), append(some(6000, 6000), []int{1}), 0, api.ErrBounds},
		{line, some(20001, 20001), 0, api.ErrForm},
		{of(row(0, 1000000, 1)), [][]int{{-1}}, 0, api.ErrLarge},
		{api.Domain{}, nil, 0, api.ErrCount},
		{grid, nil, 0, api.OK},
		{grid, [][]int{{2, 3}}, 1, api.OK},
		{grid, [][]int{{2, 4}}, 0, api.ErrBounds},
		{grid, [][]int{{3, 0}}, 0, api.ErrBounds},
		{grid, [][]int{{0, 0}, {0, -1}}, 0, api.ErrBounds},
		{grid, [][]int{nil}, 0, api.ErrBounds},
		{grid, [][]int{{1}}, 0, api.ErrBounds},
		{grid, [][]int{{0, 0, 0}}, 0, api.ErrBounds},
		{of(none), [][]int{{1}}, 0, api.ErrBounds},
		{of(row(0, 0, 1)), [][]int{{0, 0}}, 0, api.ErrBounds},
	} {
		s, e := irregular.Of(c.parent, c.indices)
		if len(s.At) != c.size || e != c.e || e != api.OK && !zero(s) || e == api.OK && irregular.Check(s) != api.OK {
			t.Errorf("Of(%v, %d indices) = %v, %v, want %d, %v", c.parent, len(c.indices), s, e, c.size, c.e)
		}
	}
}

// TestIndices compares indices and their numbers with lists.
func TestIndices(t *testing.T) {
	for _, s := range sparses() {
		all := indices(s.Parent)
		want := picked(all, s.At)
		l, e := irregular.Indices(s)
		if !equal(l, want) || e != api.OK {
			t.Errorf("Indices(%v) = %v, %v, want %v", s, l, e, want)
		}
		if back, e := irregular.Of(s.Parent, l); !same(back, s) || e != api.OK {
			t.Errorf("Of of Indices(%v) = %v, %v", s, back, e)
		}
		for k, index := range all {
			n, ok := irregular.Position(s, index)
			i := slices.Index(s.At, k)
			if ok != (i >= 0) || n != max(i, 0) {
				t.Errorf("Position(%v, %v) = %d, %v, want %d", s, index, n, ok, i)
			}
		}
		for _, index := range [][]int{nil, {1}, {99}, {1, 99}, {0, 0, 0}, {99, 0}} {
			if n, ok := irregular.Position(s, index); n != 0 && !ok || ok && !slices.ContainsFunc(want, func(x []int) bool { return slices.Equal(x, index) }) {
				t.Errorf("Position(%v, %v) = %d, %v", s, index, n, ok)
			}
		}
	}
}

// sets returns the functions of two sparse domains, and what they keep.
func sets() map[string]struct {
	f    func(a, b irregular.Sparse) (irregular.Sparse, api.Errno)
	keep func(first, second bool) bool
} {
	return map[string]struct {
		f    func(a, b irregular.Sparse) (irregular.Sparse, api.Errno)
		keep func(first, second bool) bool
	}{
		"Union": {irregular.Union, func(first, second bool) bool { return first || second }},
		"Both":  {irregular.Both, func(first, second bool) bool { return first && second }},
		"Minus": {irregular.Minus, func(first, second bool) bool { return first && !second }},
	}
}

// TestSets compares the operations of all pairs of sparse domains with those of lists.
func TestSets(t *testing.T) {
	for _, parent := range parents() {
		l := subsets(len(indices(parent)))
		for _, a := range l {
			for _, b := range l {
				for name, set := range sets() {
					want := sparse(parent, kept(a, b, set.keep)...)
					if got, e := set.f(sparse(parent, a...), sparse(parent, b...)); !same(got, want) || e != api.OK {
						t.Errorf("%s(%v, %v) = %v, %v, want %v", name, a, b, got, e, want)
					}
				}
			}
		}
	}
}

// TestSetsErrors asks for domains of different parents, for too many indices, and for the first error.
func TestSetsErrors(t *testing.T) {
	line, right := of(row(0, 5, 1)), sparse(of(row(0, 5, 1)), 0, 2)
	others := []api.Domain{
		of(row(0, 4, 1)), of(row(0, 10, 2)), of(row(1, 6, 1)), of(row(0, 5, 1), row(0, 0, 1)), of(none),
		mapped(line, api.Map{Home: 1}), mapped(line, api.Map{Kind: api.Block}), mapped(line, api.Map{Kind: api.Cyclic}),
		mapped(line, api.Map{Kind: api.BlockCyclic, Size: 1}),
	}
	long := of(row(0, 9999, 1))
	low, high, most := sparse(long, count(0, 2499)...), sparse(long, count(2500, 4999)...), sparse(long, count(0, 4999)...)
	for name, set := range sets() {
		for _, d := range others {
			for _, pair := range [][2]irregular.Sparse{{right, sparse(d)}, {sparse(d), right}} {
				if got, e := set.f(pair[0], pair[1]); !zero(got) || e != irregular.ErrParent {
					t.Errorf("%s(%v, %v) = %v, %v", name, pair[0], pair[1], got, e)
				}
			}
		}
		for _, w := range wrongs() {
			for _, other := range []irregular.Sparse{right, low, {}, sparse(of(row(0, 5, 1)), 9)} {
				if got, e := set.f(w.s, other); !zero(got) || e != w.e {
					t.Errorf("%s of a wrong first one: %v, %v, want %v", name, got, e, w.e)
				}
			}
			if got, e := set.f(right, w.s); !zero(got) || e != w.e {
				t.Errorf("%s of a wrong second one: %v, %v, want %v", name, got, e, w.e)
			}
		}
		for _, c := range []struct{ a, b irregular.Sparse }{{low, high}, {most, low}, {most, most}, {most, sparse(long)}} {
			want := sparse(long, kept(c.a.At, c.b.At, set.keep)...)
			if got, e := set.f(c.a, c.b); !same(got, want) || e != api.OK {
				t.Errorf("%s of %d and %d: %d, %v, want %d", name, len(c.a.At), len(c.b.At), len(got.At), e, len(want.At))
			}
		}
	}
	if got, e := irregular.Union(most, sparse(long, 7000)); !zero(got) || e != api.ErrCount {
		t.Errorf("Union of 5001 = %d, %v", len(got.At), e)
	}
}

// TestWithin compares what is left in other domains with lists.
func TestWithin(t *testing.T) {
	domains := append(parents(), of(row(1, 3, 2)), of(row(-7, 5, 4)), of(row(1, 1, 1), row(0, 2, 2)), mapped(of(row(2, 5, 3), row(1, 1, 1)), api.Map{Kind: api.Hashed}))
	for _, s := range sparses() {
		all := indices(s.Parent)
		for _, d := range domains {
			got, e := irregular.Within(s, d)
			if len(d.Dims) != len(s.Parent.Dims) {
				if !zero(got) || e != api.ErrCount {
					t.Errorf("Within(%v, %v) = %v, %v", s, d, got, e)
				}
				continue
			}
			parent, _ := domain.Intersect(s.Parent, d)
			inside := indices(parent)
			var want []int
			for _, index := range picked(all, s.At) {
				if k := slices.IndexFunc(inside, func(x []int) bool { return slices.Equal(x, index) }); k >= 0 {
					want = append(want, k)
				}
			}
			if !same(got, sparse(parent, want...)) || e != api.OK {
				t.Errorf("Within(%v, %v) = %v, %v, want %v", s, d, got, e, want)
			}
		}
	}
	right, bad := sparse(of(row(0, 5, 1)), 0, 2), of(row(0, 3, 2), none)
	for _, w := range wrongs() {
		if got, e := irregular.Within(w.s, bad); !zero(got) || e != w.e {
			t.Errorf("Within of a wrong one = %v, %v, want %v", got, e, w.e)
		}
	}
	if got, e := irregular.Within(right, bad); !zero(got) || e != api.ErrForm {
		t.Errorf("Within a wrong domain = %v, %v", got, e)
	}
	if got, e := irregular.Within(right, of(row(-1000000, 1000000, 1))); !same(got, right) || e != api.OK {
		t.Errorf("Within a large domain = %v, %v", got, e)
	}
}

// TestWrong hands wrong sparse domains to the functions of one.
func TestWrong(t *testing.T) {
	for _, w := range wrongs() {
		if l, e := irregular.Indices(w.s); len(l) != 0 || e != w.e {
			t.Errorf("Indices = %v, %v, want %v", l, e, w.e)
		}
		for _, index := range [][]int{nil, {0}, {3}, {0, 0}} {
			if n, ok := irregular.Position(w.s, index); n != 0 || ok {
				t.Errorf("Position = %d, %v", n, ok)
			}
		}
		if r, e := irregular.ByRows(w.s); len(r.Starts) != 0 || len(r.Columns) != 0 || e != w.e {
			t.Errorf("ByRows = %v, %v, want %v", r, e, w.e)
		}
		if s, e := irregular.Transpose(w.s); !zero(s) || e != w.e {
			t.Errorf("Transpose = %v, %v, want %v", s, e, w.e)
		}
	}
}

// TestArguments asks that arguments and what stands behind their ends stay.
func TestArguments(t *testing.T) {
	dims := []api.Range{row(0, 2, 1), row(0, 3, 1), row(7, 7, 1)}
	at, other := []int{0, 3, 9, 77}, []int{1, 3, 66}
	list := [][]int{{2, 1}, {0, 3}, {0, 0}, {9, 9}}
	rows := irregular.Rows{Starts: []int{0, 2, 2, 3, 55}, Columns: []int{0, 3, 1, 44}}
	keys, more := irregular.Keys{"a", "c", "e", "z"}, irregular.Keys{"b", "c", "y"}
	a, b := sparse(of(dims[:2]...), at[:3]...), sparse(of(dims[:2]...), other[:2]...)
	irregular.Of(a.Parent, list[:3])
	irregular.Indices(a)
	irregular.Union(a, b)
	irregular.Both(a, b)
	irregular.Minus(a, b)
	irregular.Within(a, of(row(0, 1, 1), row(0, 1, 1)))
	irregular.ByRows(a)
	irregular.FromRows(a.Parent, irregular.Rows{Starts: rows.Starts[:4], Columns: rows.Columns[:3]})
	irregular.Transpose(a)
	irregular.Add(keys[:3], "d")
	irregular.Add(keys[:3], "f")
	irregular.Remove(keys[:3], "a")
	for _, f := range keySets() {
		f.f(keys[:3], more[:2])
	}
	if !slices.Equal(dims, []api.Range{row(0, 2, 1), row(0, 3, 1), row(7, 7, 1)}) || !slices.Equal(at, []int{0, 3, 9, 77}) || !slices.Equal(other, []int{1, 3, 66}) || !equal(list, [][]int{{2, 1}, {0, 3}, {0, 0}, {9, 9}}) {
		t.Errorf("arguments changed: %v, %v, %v, %v", dims, at, other, list)
	}
	if !slices.Equal(rows.Starts, []int{0, 2, 2, 3, 55}) || !slices.Equal(rows.Columns, []int{0, 3, 1, 44}) || !slices.Equal(keys, irregular.Keys{"a", "c", "e", "z"}) || !slices.Equal(more, irregular.Keys{"b", "c", "y"}) {
		t.Errorf("arguments changed: %v, %v, %v", rows, keys, more)
	}
}
