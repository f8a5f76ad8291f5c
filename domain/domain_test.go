package domain_test

import (
	"math"
	"slices"
	"testing"

	"raddle/api"
	"raddle/domain"
	"raddle/span"
)

const most = span.MaxNumber

var none = api.Range{Low: 1, High: 0, Stride: 1}

// row returns a range by its three fields.
func row(low, high, stride int) api.Range {
	return api.Range{Low: low, High: high, Stride: stride}
}

// of returns the domain of ranges with the map Local at home 0.
func of(l ...api.Range) api.Domain { return api.Domain{Dims: l} }

// mapped returns a domain with another map.
func mapped(d api.Domain, m api.Map) api.Domain {
	d.Map = m
	return d
}

// small returns all right ascending ranges with numbers from low to high.
func small(low, high int) []api.Range {
	l := []api.Range{none}
	for a := low; a <= high; a++ {
		l = append(l, row(a, a, 1))
		for b := a + 1; b <= high; b++ {
			for s := 1; s <= b-a; s++ {
				if (b-a)%s == 0 {
					l = append(l, row(a, b, s))
				}
			}
		}
	}
	return l
}

// domains returns all domains of small ranges of both ranks.
func domains(low, high int) []api.Domain {
	var l []api.Domain
	for _, r := range small(low, high) {
		l = append(l, of(r))
		for _, q := range small(low, high) {
			l = append(l, of(r, q))
		}
	}
	return l
}

// indices returns the indices of a right domain in order.
func indices(d api.Domain) [][]int {
	l := [][]int{nil}
	for _, r := range d.Dims {
		var longer [][]int
		for _, index := range l {
			for n := r.Low; n <= r.High; n += r.Stride {
				longer = append(longer, append(slices.Clone(index), n))
			}
		}
		l = longer
	}
	return l
}

// same reports whether two domains are equal in all fields.
func same(a, b api.Domain) bool { return slices.Equal(a.Dims, b.Dims) && a.Map == b.Map }

// zero reports whether a domain is the zero value.
func zero(d api.Domain) bool { return same(d, api.Domain{}) }

// has reports whether an index is in a list.
func has(l [][]int, index []int) bool {
	return slices.ContainsFunc(l, func(x []int) bool { return slices.Equal(x, index) })
}

// wrong is a domain with an error.
type wrong struct {
	d api.Domain
	e api.Errno
}

// wrongs returns domains with an error, with two where the first one decides, and with a range behind the list's end.
func wrongs() []wrong {
	ok, form, far, down := row(0, 4, 2), row(0, 3, 2), row(0, most+1, 1), row(0, 4, -2)
	bad := api.Map{Kind: 5}
	return []wrong{
		{of(), api.ErrCount},
		{mapped(of(), bad), api.ErrCount},
		{of(ok, ok, ok), api.ErrCount},
		{of(form, far, down), api.ErrCount},
		{of(form), api.ErrForm},
		{of(far), api.ErrRange},
		{of(down), api.ErrForm},
		{of(row(0, most+1, -1)), api.ErrRange},
		{of(ok, form), api.ErrForm},
		{of(ok, far), api.ErrRange},
		{of(ok, down), api.ErrForm},
		{of(down, far), api.ErrForm},
		{of(far, down), api.ErrRange},
		{of(far, form), api.ErrRange},
		{of(form, far), api.ErrForm},
		{of(none, far), api.ErrRange},
		{mapped(of(far), bad), api.ErrRange},
		{mapped(of(ok, far), bad), api.ErrRange},
		{mapped(of(ok), bad), api.ErrForm},
		{mapped(of(ok, none), bad), api.ErrForm},
		{api.Domain{Dims: []api.Range{ok, ok}[:0]}, api.ErrCount},
		{of(row(math.MinInt, math.MaxInt, 1)), api.ErrRange},
	}
}

// TestCheck asks for the errors of domains, and of all maps.
func TestCheck(t *testing.T) {
	for _, w := range wrongs() {
		if e := domain.Check(w.d); e != w.e {
			t.Errorf("Check(%v) = %v, want %v", w.d, e, w.e)
		}
	}
	for _, d := range domains(-2, 2) {
		if e := domain.Check(d); e != api.OK {
			t.Errorf("Check(%v) = %v", d, e)
		}
	}
	for kind := -1; kind <= 6; kind++ {
		for _, size := range []int{math.MinInt, -1, 0, 1, 2, 999, 1000, 1001, math.MaxInt} {
			for _, home := range []int{math.MinInt, -1, 0, 1, 7, 8, math.MaxInt} {
				want := api.ErrForm
				switch kind {
				case api.Local:
					if size == 0 && home >= 0 && home < api.MaxLocales {
						want = api.OK
					}
				case api.Block, api.Cyclic, api.Hashed:
					if size == 0 && home == 0 {
						want = api.OK
					}
				case api.BlockCyclic:
					if size >= 1 && size <= 1000 && home == 0 {
						want = api.OK
					}
				}
				d := mapped(of(row(0, 4, 2)), api.Map{Kind: kind, Size: size, Home: home})
				if e := domain.Check(d); e != want {
					t.Errorf("Check(%v) = %v, want %v", d, e, want)
				}
			}
		}
	}
}

// TestOf turns descending ranges, and finds the first error.
func TestOf(t *testing.T) {
	up, down := row(0, 6, 3), row(-4, 4, -2)
	for _, c := range []struct {
		l, want []api.Range
		e       api.Errno
	}{
		{[]api.Range{up}, []api.Range{up}, api.OK},
		{[]api.Range{down}, []api.Range{row(-4, 4, 2)}, api.OK},
		{[]api.Range{none, down}, []api.Range{none, row(-4, 4, 2)}, api.OK},
		{[]api.Range{down, up}, []api.Range{row(-4, 4, 2), up}, api.OK},
		{[]api.Range{row(-most, most, -2*most), row(5, 5, 1)}, []api.Range{row(-most, most, 2*most), row(5, 5, 1)}, api.OK},
		{nil, nil, api.ErrCount},
		{[]api.Range{}, nil, api.ErrCount},
		{[]api.Range{up, up, up}, nil, api.ErrCount},
		{[]api.Range{row(0, 1, 2), up, up}, nil, api.ErrCount},
		{[]api.Range{row(0, 1, 2)}, nil, api.ErrForm},
		{[]api.Range{row(0, 1, -2)}, nil, api.ErrForm},
		{[]api.Range{row(0, most+1, -1)}, nil, api.ErrRange},
		{[]api.Range{row(0, most+1, 1), row(0, 1, 2)}, nil, api.ErrRange},
		{[]api.Range{row(0, 1, 2), row(0, most+1, 1)}, nil, api.ErrForm},
		{[]api.Range{down, row(0, most+1, -1)}, nil, api.ErrRange},
	} {
		before := slices.Clone(c.l)
		d, e := domain.Of(c.l)
		if !same(d, of(c.want...)) || e != c.e {
			t.Errorf("Of(%v) = %v, %v, want %v, %v", c.l, d, e, c.want, c.e)
		}
		if !slices.Equal(c.l, before) {
			t.Errorf("Of(%v) changed its argument to %v", before, c.l)
		}
	}
}

// TestOrder compares indices and their positions with a list, and each other.
func TestOrder(t *testing.T) {
	for _, d := range domains(-2, 3) {
		l := indices(d)
		if n := domain.Size(d); n != len(l) {
			t.Errorf("Size(%v) = %d, want %d", d, n, len(l))
		}
		next := 0
		for k, index := range domain.All(d) {
			if k != next || k >= len(l) || !slices.Equal(index[:len(d.Dims)], l[k]) || len(d.Dims) == 1 && index[1] != 0 {
				t.Errorf("All(%v) yields %d, %v at %d of %v", d, k, index, next, l)
				break
			}
			next++
		}
		if next != len(l) {
			t.Errorf("All(%v) yields %d indices of %d", d, next, len(l))
		}
		for _, k := range []int{math.MinInt, -1, len(l), len(l) + 1, math.MaxInt} {
			if index, e := domain.Nth(d, k); len(index) != 0 || e != api.ErrRange {
				t.Errorf("Nth(%v, %d) = %v, %v", d, k, index, e)
			}
		}
		for k, want := range l {
			index, e := domain.Nth(d, k)
			back, ok := domain.Position(d, want)
			if !slices.Equal(index, want) || e != api.OK || back != k || !ok {
				t.Errorf("Nth(%v, %d) = %v, %v, want %v; back %d, %v", d, k, index, e, want, back, ok)
			}
		}
	}
}

// TestHas asks for indices that are in a domain, and others.
func TestHas(t *testing.T) {
	for _, d := range domains(-1, 2) {
		l := indices(d)
		for a := -2; a <= 3; a++ {
			for _, index := range [][]int{nil, {a}, {a, -1}, {a, 0}, {a, 1}, {a, 2}, {a, 3}, {a, 0, 0}, {a, math.MaxInt}, {math.MinInt, a}} {
				k, ok := domain.Position(d, index)
				if want := has(l, index); ok != want || domain.Has(d, index) != want || !ok && k != 0 {
					t.Errorf("Position(%v, %v) = %d, %v; Has %v, want %v", d, index, k, ok, domain.Has(d, index), want)
				}
			}
		}
	}
}

// TestFar asks for indices of a domain with very many.
func TestFar(t *testing.T) {
	d := of(row(-most, most, 1), row(-most, most, 2))
	columns := most + 1
	if n := domain.Size(d); n != (2*most+1)*columns {
		t.Errorf("Size = %d", n)
	}
	for _, c := range []struct {
		k     int
		index []int
	}{
		{0, []int{-most, -most}},
		{columns - 1, []int{-most, most}},
		{columns, []int{1 - most, -most}},
		{most*columns + most/2, []int{0, 0}},
		{(2*most+1)*columns - 1, []int{most, most}},
	} {
		index, e := domain.Nth(d, c.k)
		k, ok := domain.Position(d, c.index)
		if !slices.Equal(index, c.index) || e != api.OK || k != c.k || !ok {
			t.Errorf("Nth(%d) = %v, %v; Position(%v) = %d, %v", c.k, index, e, c.index, k, ok)
		}
	}
	sum := 0
	for k, index := range domain.All(d) {
		sum++
		if k != sum-1 || index != [2]int{-most, -most + 2*k} {
			t.Fatalf("All yields %d, %v", k, index)
		}
		if sum == 10 {
			break
		}
	}
	if l, e := domain.Nth(d, (2*most+1)*columns); len(l) != 0 || e != api.ErrRange {
		t.Errorf("Nth behind the last one = %v, %v", l, e)
	}
}

// TestWrong hands domains with an error to every function: the first one decides, ahead of all else.
func TestWrong(t *testing.T) {
	ok, line := of(row(0, 4, 2), row(0, 1, 1)), of(row(0, 4, 2))
	for _, w := range wrongs() {
		if domain.Size(w.d) != 0 || domain.Has(w.d, []int{0}) || domain.Has(w.d, []int{0, 0}) || domain.Has(w.d, nil) {
			t.Errorf("%v has indices", w.d)
		}
		for _, index := range [][]int{nil, {0}, {0, 0}, {0, 0, 0}} {
			if k, ok := domain.Position(w.d, index); k != 0 || ok {
				t.Errorf("Position(%v, %v) = %d, %v", w.d, index, k, ok)
			}
		}
		for k, index := range domain.All(w.d) {
			t.Fatalf("All(%v) yields %d, %v", w.d, k, index)
		}
		for _, k := range []int{-1, 0} {
			if index, e := domain.Nth(w.d, k); len(index) != 0 || e != w.e {
				t.Errorf("Nth(%v, %d) = %v, %v, want %v", w.d, k, index, e, w.e)
			}
		}
		for name, f := range moves() {
			for _, by := range [][]int{nil, {0}, {most + 1}, {0, 0}, {math.MinInt, math.MaxInt}, {0, 0, 0}} {
				if d, e := f(w.d, by); !zero(d) || e != w.e {
					t.Errorf("%s(%v, %v) = %v, %v, want %v", name, w.d, by, d, e, w.e)
				}
			}
		}
		for _, d := range []api.Domain{ok, line, of(none)} {
			errorsOfTwo(t, w.d, d, w.e)
			errorsOfTwo(t, d, w.d, w.e)
		}
		for _, x := range wrongs() {
			errorsOfTwo(t, w.d, x.d, w.e)
		}
	}
	errorsOfTwo(t, ok, line, api.ErrCount)
	errorsOfTwo(t, line, ok, api.ErrCount)
	errorsOfTwo(t, of(none), of(none, none), api.ErrCount)
}

// errorsOfTwo hands two domains with an error to the functions of two.
func errorsOfTwo(t *testing.T, a, b api.Domain, want api.Errno) {
	t.Helper()
	if d, e := domain.Intersect(a, b); !zero(d) || e != want {
		t.Errorf("Intersect(%v, %v) = %v, %v, want %v", a, b, d, e, want)
	}
	if l, e := domain.Subtract(a, b); len(l) != 0 || e != want {
		t.Errorf("Subtract(%v, %v) = %v, %v, want %v", a, b, l, e, want)
	}
	if ok, e := domain.Within(a, b); ok || e != want {
		t.Errorf("Within(%v, %v) = %v, %v, want %v", a, b, ok, e, want)
	}
	if domain.Same(a, b) {
		t.Errorf("Same(%v, %v)", a, b)
	}
}

// moves returns the functions with a number for each dimension.
func moves() map[string]func(api.Domain, []int) (api.Domain, api.Errno) {
	return map[string]func(api.Domain, []int) (api.Domain, api.Errno){"Translate": domain.Translate, "Expand": domain.Expand, "Interior": domain.Interior, "Exterior": domain.Exterior}
}

// TestExample asks for the example.
func TestExample(t *testing.T) {
	d, e := domain.Of([]api.Range{row(1, 5, 2), row(0, 1, 1)})
	if domain.Size(d) != 6 || e != api.OK {
		t.Errorf("Of = %v, %v", d, e)
	}
	if index, e := domain.Nth(d, 3); !slices.Equal(index, []int{3, 1}) || e != api.OK {
		t.Errorf("Nth = %v, %v", index, e)
	}
}
