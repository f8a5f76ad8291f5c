package span_test

import (
	"slices"
	"testing"

	"raddle/api"
	"raddle/span"
)

// shared returns the numbers of a that b has, in the direction of a.
func shared(a, b api.Range) []int {
	l, other := numbers(a), numbers(b)
	return slices.DeleteFunc(l, func(n int) bool { return !slices.Contains(other, n) })
}

// left returns the ranges of Subtract, as its description says.
func left(a, b api.Range) []api.Range {
	all, c := numbers(a), shared(a, b)
	if len(all) == 0 {
		return nil
	}
	if len(c) == 0 {
		return []api.Range{a}
	}
	slices.Sort(all)
	slices.Sort(c)
	pieces := [][]int{nil}
	for _, n := range all {
		if n < c[0] {
			pieces[0] = append(pieces[0], n)
		}
	}
	for k := 1; len(c) > 1 && k*step(a) < c[1]-c[0]; k++ {
		var piece []int
		for _, n := range c[:len(c)-1] {
			piece = append(piece, n+k*step(a))
		}
		pieces = append(pieces, piece)
	}
	pieces = append(pieces, nil)
	for _, n := range all {
		if n > c[len(c)-1] {
			pieces[len(pieces)-1] = append(pieces[len(pieces)-1], n)
		}
	}
	var l []api.Range
	for _, piece := range pieces {
		if len(piece) > 0 {
			l = append(l, rangeOf(like(a, piece)))
		}
	}
	return l
}

// hull returns the range of Hull, by trying all steps.
func hull(a, b api.Range) api.Range {
	all := append(numbers(a), numbers(b)...)
	if len(all) == 0 {
		return none
	}
	low, high := slices.Min(all), slices.Max(all)
	if low == high {
		return row(low, low, 1)
	}
	for s := high - low; ; s-- {
		if !slices.ContainsFunc(all, func(n int) bool { return (n-low)%s != 0 }) {
			return row(low, high, s)
		}
	}
}

// TestPairs compares the operations of all pairs of small ranges with those of lists.
func TestPairs(t *testing.T) {
	l := small(-4, 6)
	for _, a := range l {
		for _, b := range l {
			c := shared(a, b)
			both, e := span.Intersect(a, b)
			if both != rangeOf(c) || e != api.OK {
				t.Errorf("Intersect(%v, %v) = %v, %v, want %v", a, b, both, e, c)
			}
			if ok, e := span.Within(a, b); ok != (len(c) == len(numbers(a))) || e != api.OK {
				t.Errorf("Within(%v, %v) = %v, %v", a, b, ok, e)
			}
			if got, e := span.Hull(a, b); got != hull(a, b) || e != api.OK {
				t.Errorf("Hull(%v, %v) = %v, %v, want %v", a, b, got, e, hull(a, b))
			}
			rest, e := span.Subtract(a, b)
			if !slices.Equal(rest, left(a, b)) || e != api.OK {
				t.Errorf("Subtract(%v, %v) = %v, %v, want %v", a, b, rest, e, left(a, b))
			}
			divided(t, a, append(rest, both))
		}
	}
}

// divided asks that ranges are right, and have the numbers of a, each once.
func divided(t *testing.T, a api.Range, parts []api.Range) {
	t.Helper()
	var all []int
	for _, r := range parts {
		if e := span.Check(r); e != api.OK {
			t.Errorf("%v, a part of %v, has the error %v", r, a, e)
		}
		all = append(all, slices.Collect(span.All(r))...)
	}
	slices.Sort(all)
	if !slices.Equal(all, slices.Sorted(span.All(a))) {
		t.Errorf("%v are not the parts of %v", parts, a)
	}
}

// TestTriples asks for the laws of three ranges.
func TestTriples(t *testing.T) {
	l := small(-2, 4)
	for _, a := range l {
		for _, b := range l {
			ab, _ := span.Intersect(a, b)
			ba, _ := span.Intersect(b, a)
			if !slices.Equal(slices.Sorted(span.All(ab)), slices.Sorted(span.All(ba))) {
				t.Errorf("Intersect of %v and %v: %v, %v", a, b, ab, ba)
			}
			around, _ := span.Hull(a, b)
			for _, c := range l {
				bc, _ := span.Intersect(b, c)
				one, _ := span.Intersect(ab, c)
				two, _ := span.Intersect(a, bc)
				if !slices.Equal(slices.Sorted(span.All(one)), slices.Sorted(span.All(two))) {
					t.Errorf("Intersect of %v, %v and %v: %v, %v", a, b, c, one, two)
				}
				hasA, _ := span.Within(a, c)
				hasB, _ := span.Within(b, c)
				if has, _ := span.Within(around, c); has != (hasA && hasB) {
					t.Errorf("Hull of %v and %v = %v, within %v: %v", a, b, around, c, has)
				}
			}
		}
	}
}

// TestOneRange asks that no two right ranges have the same numbers in the same order.
func TestOneRange(t *testing.T) {
	var known [][]int
	var ranges []api.Range
	for low := -2; low <= 3; low++ {
		for high := -2; high <= 3; high++ {
			for stride := -6; stride <= 6; stride++ {
				r := row(low, high, stride)
				if span.Check(r) != api.OK {
					continue
				}
				l := slices.Collect(span.All(r))
				for i, other := range known {
					if slices.Equal(l, other) {
						t.Errorf("%v and %v have the numbers %v", r, ranges[i], l)
					}
				}
				known, ranges = append(known, l), append(ranges, r)
			}
		}
	}
}

// TestLargeSteps compares ranges of few numbers that are far apart with lists.
func TestLargeSteps(t *testing.T) {
	var l []api.Range
	for _, low := range []int{-most, -most + 1, -999983, -77, 0, 1, 5} {
		for _, s := range []int{1999999, 1000003, 999983, 999999, 499979, 250000, 99991} {
			high := low + (most-low)/s*s
			if low < high {
				l = append(l, row(low, high, s), row(low, high, -s))
			}
		}
	}
	l = append(l, row(-most, most, 2*most), row(most, most, 1), row(-most, -most, 1))
	for _, a := range l {
		for _, b := range l {
			if got, e := span.Intersect(a, b); got != rangeOf(shared(a, b)) || e != api.OK {
				t.Errorf("Intersect(%v, %v) = %v, %v, want %v", a, b, got, e, shared(a, b))
			}
			got, e := span.Hull(a, b)
			if e != api.OK || got.Low != min(a.Low, b.Low) || got.High != max(a.High, b.High) || got.Stride != hullStep(a, b) {
				t.Errorf("Hull(%v, %v) = %v, %v, want the step %d", a, b, got, e, hullStep(a, b))
			}
		}
	}
}

// hullStep returns the step of the hull of two ranges; 1 for a single number.
func hullStep(a, b api.Range) int {
	d := 0
	for _, n := range append(numbers(a), numbers(b)...) {
		for n -= a.Low; n != 0; {
			d, n = n, d%n
		}
	}
	return max(d, -d, 1)
}

// TestDenseAndWide compares long ranges of which one has few numbers of the other.
func TestDenseAndWide(t *testing.T) {
	a, b := row(-most, most, 1), row(-most+7, most-5, -4)
	if got, e := span.Intersect(a, b); got != row(-most+7, most-5, 4) || e != api.OK {
		t.Errorf("Intersect = %v, %v", got, e)
	}
	if got, e := span.Intersect(b, a); got != b || e != api.OK {
		t.Errorf("Intersect = %v, %v", got, e)
	}
	if got, e := span.Intersect(row(-most, most, 2), row(-most+1, most-1, 2)); got != none || e != api.OK {
		t.Errorf("Intersect of even and odd numbers = %v, %v", got, e)
	}
	if got, e := span.Intersect(row(-999999, 999999, 3), row(-999999, 999999, -7)); got != row(-999999, 999999, 21) || e != api.OK {
		t.Errorf("Intersect of multiples of 3 and of 7 = %v, %v", got, e)
	}
}

// TestPieces asks for the greatest list of Subtract.
func TestPieces(t *testing.T) {
	for _, c := range []struct {
		a, b api.Range
		want int
	}{
		{row(0, 2002, 1), row(0, 2002, 1001), 1000},
		{row(0, 2004, 1), row(0, 2004, 1002), -1},
		{row(0, 2002, -1), row(0, 2002, 1001), 1000},
		{row(-1, 2000, 1), row(0, 2000, 1000), 1000},
		{row(0, 2001, 1), row(0, 2000, 1000), 1000},
		{row(-1, 2001, 1), row(0, 2000, 1000), -1},
		{row(-1, 1999, 1), row(0, 1998, 999), 1000},
		{row(-1, 2002, 1), row(0, 2002, 1001), -1},
		{row(0, 2003, 1), row(0, 2002, 1001), -1},
		{row(0, 6006, 3), row(0, 6006, 3003), 1000},
		{row(0, 6012, 3), row(0, 6012, 2004), 667},
		{row(-most, most, 1), row(-most, most, 2*most), -1},
		{row(-most, most, 1), row(-most, most, most), -1},
		{row(-most, most, 1), row(5, 5, 1), 2},
		{row(-most, most, 2), row(-most+1, most-1, 2), 1},
		{row(-most, most, 1), row(-999999, 999999, 3), 4},
	} {
		l, e := span.Subtract(c.a, c.b)
		if c.want < 0 {
			if len(l) != 0 || e != api.ErrLarge {
				t.Errorf("Subtract(%v, %v) = %d ranges, %v", c.a, c.b, len(l), e)
			}
		} else if len(l) != c.want || e != api.OK {
			t.Errorf("Subtract(%v, %v) = %d ranges, %v, want %d", c.a, c.b, len(l), e, c.want)
		}
	}
}

// TestErrors hands wrong ranges to every function: the first one decides, ahead of all else.
func TestErrors(t *testing.T) {
	for r, want := range wrong() {
		if n := span.Size(r); n != 0 || span.Has(r, r.Low) || span.Has(r, r.High) {
			t.Errorf("Size(%v) = %d", r, n)
		}
		if k, ok := span.Position(r, r.Low); k != 0 || ok {
			t.Errorf("Position of %v = %d, %v", r, k, ok)
		}
		for n := range span.All(r) {
			t.Fatalf("All(%v) yields %d", r, n)
		}
		if n, e := span.Nth(r, -1); n != 0 || e != want {
			t.Errorf("Nth of %v = %d, %v, want %v", r, n, e, want)
		}
		for name, f := range map[string]func(api.Range, int) (api.Range, api.Errno){"By": span.By, "Count": span.Count, "Translate": span.Translate, "Expand": span.Expand, "Interior": span.Interior, "Exterior": span.Exterior} {
			for _, n := range far() {
				if got, e := f(r, n); got != (api.Range{}) || e != want {
					t.Errorf("%s(%v, %d) = %v, %v, want %v", name, r, n, got, e, want)
				}
			}
		}
		errorsOfTwo(t, r, row(0, 9, 3), want)
		errorsOfTwo(t, row(0, 9, 3), r, want)
		errorsOfTwo(t, none, r, want)
		errorsOfTwo(t, r, row(1, 1, 2), want)
		errorsOfTwo(t, r, row(most+1, most+1, 1), want)
	}
}

// errorsOfTwo hands two ranges with an error to the functions of two.
func errorsOfTwo(t *testing.T, a, b api.Range, want api.Errno) {
	t.Helper()
	if r, e := span.Intersect(a, b); r != (api.Range{}) || e != want {
		t.Errorf("Intersect(%v, %v) = %v, %v, want %v", a, b, r, e, want)
	}
	if l, e := span.Subtract(a, b); len(l) != 0 || e != want {
		t.Errorf("Subtract(%v, %v) = %v, %v, want %v", a, b, l, e, want)
	}
	if r, e := span.Hull(a, b); r != (api.Range{}) || e != want {
		t.Errorf("Hull(%v, %v) = %v, %v, want %v", a, b, r, e, want)
	}
	if ok, e := span.Within(a, b); ok || e != want {
		t.Errorf("Within(%v, %v) = %v, %v, want %v", a, b, ok, e, want)
	}
}

// TestExamples asks for the examples.
func TestExamples(t *testing.T) {
	ascending, _ := span.Of(1, 10, 3)
	descending, _ := span.Of(1, 10, -4)
	by, _ := span.By(ascending, -2)
	four, _ := span.Of(0, 16, 4)
	three, _ := span.Of(2, 17, 3)
	both, _ := span.Intersect(four, three)
	two, _ := span.Of(0, 4, 4)
	around, _ := span.Hull(two, row(10, 10, 1))
	for _, c := range []struct {
		got  api.Range
		want []int
	}{
		{ascending, []int{1, 4, 7, 10}},
		{descending, []int{10, 6, 2}},
		{by, []int{10, 4}},
		{both, []int{8}},
		{around, []int{0, 2, 4, 6, 8, 10}},
	} {
		if l := slices.Collect(span.All(c.got)); !slices.Equal(l, c.want) {
			t.Errorf("%v has the numbers %v, want %v", c.got, l, c.want)
		}
	}
	rest, e := span.Subtract(row(0, 9, 1), row(3, 6, 3))
	if want := []api.Range{row(0, 2, 1), row(4, 4, 1), row(5, 5, 1), row(7, 9, 1)}; !slices.Equal(rest, want) || e != api.OK {
		t.Errorf("Subtract = %v, %v, want %v", rest, e, want)
	}
}
