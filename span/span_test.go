package span_test

import (
	"math"
	"slices"
	"testing"

	"raddle/api"
	"raddle/span"
)

const most = span.MaxNumber

var none = api.Range{Low: 1, High: 0, Stride: 1}

// row returns a range by its three fields.
func row(low, high, stride int) api.Range {
	return api.Range{Low: low, High: high, Stride: stride}
}

// right reports, for small numbers, whether a range has one of the three forms.
func right(r api.Range) bool {
	switch {
	case r == none, r.Low == r.High && r.Stride == 1:
		return true
	}
	return r.Low < r.High && r.Stride != 0 && (r.High-r.Low)%r.Stride == 0
}

// small returns all right ranges with numbers from low to high.
func small(low, high int) []api.Range {
	l := []api.Range{none}
	for a := low; a <= high; a++ {
		l = append(l, row(a, a, 1))
		for b := a + 1; b <= high; b++ {
			for s := 1; s <= b-a; s++ {
				if (b-a)%s == 0 {
					l = append(l, row(a, b, s), row(a, b, -s))
				}
			}
		}
	}
	return l
}

// numbers returns the numbers of a right range in order.
func numbers(r api.Range) []int {
	var l []int
	switch {
	case r.Stride > 0:
		for n := r.Low; n <= r.High; n += r.Stride {
			l = append(l, n)
		}
	case r.Stride < 0:
		for n := r.High; n >= r.Low; n += r.Stride {
			l = append(l, n)
		}
	}
	return l
}

// rangeOf returns the right range with some numbers, which are equally far apart, in their order.
func rangeOf(l []int) api.Range {
	switch len(l) {
	case 0:
		return none
	case 1:
		return row(l[0], l[0], 1)
	}
	return row(slices.Min(l), slices.Max(l), l[1]-l[0])
}

// like returns numbers in the direction of a range.
func like(r api.Range, l []int) []int {
	slices.Sort(l)
	if r.Stride < 0 {
		slices.Reverse(l)
	}
	return l
}

// step returns how far the numbers of a right range are apart.
func step(r api.Range) int { return max(r.Stride, -r.Stride) }

// wrong returns ranges with an error, and their errors.
func wrong() map[api.Range]api.Errno {
	return map[api.Range]api.Errno{
		row(0, 0, 0):                     api.ErrForm,
		row(1, 4, 2):                     api.ErrForm,
		row(1, 4, -2):                    api.ErrForm,
		row(1, 4, 4):                     api.ErrForm,
		row(1, 4, 0):                     api.ErrForm,
		row(1, 1, 2):                     api.ErrForm,
		row(1, 1, -1):                    api.ErrForm,
		row(2, 1, 1):                     api.ErrForm,
		row(1, 0, -1):                    api.ErrForm,
		row(1, 0, 2):                     api.ErrForm,
		row(0, -1, 1):                    api.ErrForm,
		row(most+1, most+1, 2):           api.ErrForm,
		row(most+2, most+1, 1):           api.ErrForm,
		row(math.MinInt, math.MaxInt, 2): api.ErrForm,
		row(math.MinInt, math.MaxInt, math.MinInt):     api.ErrForm,
		row(math.MaxInt, math.MinInt, 1):               api.ErrForm,
		row(math.MinInt, math.MinInt, math.MinInt):     api.ErrForm,
		row(most+1, most+1, 1):                         api.ErrRange,
		row(-most-1, -most-1, 1):                       api.ErrRange,
		row(0, most+1, 1):                              api.ErrRange,
		row(-most-1, 0, 1):                             api.ErrRange,
		row(-most-1, 0, -1):                            api.ErrRange,
		row(-most-1, most+1, 2*most+2):                 api.ErrRange,
		row(math.MinInt, math.MaxInt, 1):               api.ErrRange,
		row(math.MinInt, math.MaxInt, 3):               api.ErrRange,
		row(math.MinInt, math.MaxInt, -5):              api.ErrRange,
		row(math.MinInt, 0, math.MinInt):               api.ErrRange,
		row(math.MinInt, math.MaxInt-1, math.MaxInt):   api.ErrRange,
		row(math.MinInt+1, math.MaxInt, math.MaxInt):   api.ErrRange,
		row(math.MinInt+1, math.MaxInt, -math.MaxInt):  api.ErrRange,
		row(math.MaxInt-1, math.MaxInt, 1):             api.ErrRange,
		row(math.MinInt, math.MinInt, 1):               api.ErrRange,
		row(most, most+2, 2):                           api.ErrRange,
		row(math.MinInt, math.MaxInt, math.MinInt+1):   api.ErrForm,
		row(math.MinInt+2, math.MaxInt, math.MaxInt-1): api.ErrForm,
	}
}

// far returns numbers that are small, at the limits, and beyond them.
func far() []int {
	l := []int{math.MinInt, math.MinInt + 1, math.MinInt / 2, math.MaxInt / 2, math.MaxInt - 1, math.MaxInt, 1 << 31, 1 << 32, -1 << 32, 1 << 43, -1 << 43}
	for _, n := range []int{-2 * most, -most, 0, most, 2 * most} {
		l = append(l, n-1, n, n+1)
	}
	return l
}

// TestCheck asks for the error of every range of small numbers, and at the limits.
func TestCheck(t *testing.T) {
	for low := -4; low <= 4; low++ {
		for high := -4; high <= 4; high++ {
			for stride := -9; stride <= 9; stride++ {
				r := row(low, high, stride)
				want := api.ErrForm
				if right(r) {
					want = api.OK
				}
				if e := span.Check(r); e != want {
					t.Errorf("Check(%v) = %v, want %v", r, e, want)
				}
			}
		}
	}
	for r, want := range wrong() {
		if e := span.Check(r); e != want {
			t.Errorf("Check(%v) = %v, want %v", r, e, want)
		}
	}
	for _, r := range []api.Range{row(-most, most, 1), row(-most, most, -2), row(-most, most, 2*most), row(-most, most, -2*most), row(most, most, 1), row(-most, -most, 1)} {
		if e := span.Check(r); e != api.OK {
			t.Errorf("Check(%v) = %v", r, e)
		}
	}
}

// TestOf makes every range of small numbers, and asks for its errors in their order.
func TestOf(t *testing.T) {
	for low := -6; low <= 6; low++ {
		for high := -6; high <= 6; high++ {
			for stride := -14; stride <= 14; stride++ {
				var want []int
				for n := low; stride > 0 && n <= high; n += stride {
					want = append(want, n)
				}
				for n := high; stride < 0 && n >= low; n += stride {
					want = append(want, n)
				}
				r, e := span.Of(low, high, stride)
				if stride == 0 {
					if r != (api.Range{}) || e != api.ErrArgument {
						t.Errorf("Of(%d, %d, 0) = %v, %v", low, high, r, e)
					}
				} else if r != rangeOf(want) || e != api.OK {
					t.Errorf("Of(%d, %d, %d) = %v, %v, want %v", low, high, stride, r, e, want)
				}
			}
		}
	}
	for _, c := range []struct {
		low, high, stride int
		want              api.Range
		e                 api.Errno
	}{
		{-most, most, most, row(-most, most, most), api.OK},
		{-most, most, -most, row(-most, most, -most), api.OK},
		{1 - most, most, most, row(1-most, 1, most), api.OK},
		{1 - most, most, -most, row(0, most, -most), api.OK},
		{most, -most, 1, none, api.OK},
		{most, -most, -most, none, api.OK},
		{-most, most, 999999, row(-most, 999998, 999999), api.OK},
		{most + 1, 0, 1, api.Range{}, api.ErrRange},
		{-most - 1, 0, 1, api.Range{}, api.ErrRange},
		{0, most + 1, 1, api.Range{}, api.ErrRange},
		{0, -most - 1, 1, api.Range{}, api.ErrRange},
		{0, 0, most + 1, api.Range{}, api.ErrRange},
		{0, 0, -most - 1, api.Range{}, api.ErrRange},
		{0, 0, math.MinInt, api.Range{}, api.ErrRange},
		{most + 1, math.MinInt, 0, api.Range{}, api.ErrArgument},
	} {
		if r, e := span.Of(c.low, c.high, c.stride); r != c.want || e != c.e {
			t.Errorf("Of(%d, %d, %d) = %v, %v, want %v, %v", c.low, c.high, c.stride, r, e, c.want, c.e)
		}
	}
}

// TestPositions compares numbers and their positions with a list, and each other.
func TestPositions(t *testing.T) {
	for _, r := range small(-5, 6) {
		want := numbers(r)
		if n := span.Size(r); n != len(want) {
			t.Errorf("Size(%v) = %d, want %d", r, n, len(want))
		}
		for range 2 {
			if l := slices.Collect(span.All(r)); !slices.Equal(l, want) {
				t.Errorf("All(%v) = %v, want %v", r, l, want)
			}
		}
		for k := -2; k <= len(want)+1; k++ {
			n, e := span.Nth(r, k)
			if k < 0 || k >= len(want) {
				if n != 0 || e != api.ErrRange {
					t.Errorf("Nth(%v, %d) = %d, %v", r, k, n, e)
				}
				continue
			}
			if back, ok := span.Position(r, n); n != want[k] || e != api.OK || back != k || !ok {
				t.Errorf("Nth(%v, %d) = %d, %v; back %d, %v", r, k, n, e, back, ok)
			}
		}
		for _, n := range append(far(), -7, -6, -5, -4, -3, -2, 2, 3, 4, 5, 6, 7, 8) {
			k, ok := span.Position(r, n)
			i := slices.Index(want, n)
			if ok != (i >= 0) || k != max(i, 0) || span.Has(r, n) != ok {
				t.Errorf("Position(%v, %d) = %d, %v, want %d; Has %v", r, n, k, ok, i, span.Has(r, n))
			}
		}
	}
}

// TestPositionsFar asks for positions at the ends of the greatest ranges.
func TestPositionsFar(t *testing.T) {
	up, down := row(-most, most, 1), row(-most, most, -2)
	if span.Size(up) != 2*most+1 || span.Size(down) != most+1 {
		t.Errorf("Size = %d, %d", span.Size(up), span.Size(down))
	}
	for _, c := range []struct {
		r    api.Range
		k, n int
	}{{up, 0, -most}, {up, 2 * most, most}, {up, most, 0}, {down, 0, most}, {down, most, -most}, {down, 1, most - 2}} {
		n, e := span.Nth(c.r, c.k)
		k, ok := span.Position(c.r, c.n)
		if n != c.n || e != api.OK || k != c.k || !ok {
			t.Errorf("%v: Nth(%d) = %d, %v; Position(%d) = %d, %v", c.r, c.k, n, e, c.n, k, ok)
		}
	}
	for _, k := range []int{math.MinInt, -1, 2*most + 1, math.MaxInt} {
		if n, e := span.Nth(up, k); n != 0 || e != api.ErrRange {
			t.Errorf("Nth(%d) = %d, %v", k, n, e)
		}
	}
	sum := 0
	for n := range span.All(up) {
		sum++
		if n == -most+9 {
			break
		}
	}
	if sum != 10 {
		t.Errorf("a loop that is left went over %d numbers", sum)
	}
}

// TestBy takes numbers by their positions.
func TestBy(t *testing.T) {
	for _, r := range small(-5, 6) {
		l := numbers(r)
		for n := 1; n <= 14; n++ {
			var ahead, back []int
			for k := 0; k < len(l); k += n {
				ahead = append(ahead, l[k])
				back = append(back, l[len(l)-1-k])
			}
			if got, e := span.By(r, n); got != rangeOf(ahead) || e != api.OK {
				t.Errorf("By(%v, %d) = %v, %v, want %v", r, n, got, e, ahead)
			}
			if got, e := span.By(r, -n); got != rangeOf(back) || e != api.OK {
				t.Errorf("By(%v, %d) = %v, %v, want %v", r, -n, got, e, back)
			}
		}
		if got, e := span.By(r, 0); got != (api.Range{}) || e != api.ErrArgument {
			t.Errorf("By(%v, 0) = %v, %v", r, got, e)
		}
		for _, n := range far() {
			got, e := span.By(r, n)
			if n < -most || n > most {
				if got != (api.Range{}) || e != api.ErrRange {
					t.Errorf("By(%v, %d) = %v, %v", r, n, got, e)
				}
			} else if n != 0 && e != api.OK {
				t.Errorf("By(%v, %d): %v", r, n, e)
			}
		}
	}
	for _, c := range []struct {
		r    api.Range
		n    int
		want api.Range
	}{
		{row(-most, most, most), 2, row(-most, most, 2*most)},
		{row(-most, most, most), -2, row(-most, most, -2*most)},
		{row(-most, most, 2*most), most, row(-most, -most, 1)},
		{row(-most, most, 2*most), -most, row(most, most, 1)},
		{row(-most, most, 1), -most, row(-most, most, -most)},
		{row(-most, most, -1), 999999, row(-most+2, most, -999999)},
		{row(-most, most, -1), -999999, row(-most, most-2, 999999)},
	} {
		if got, e := span.By(c.r, c.n); got != c.want || e != api.OK {
			t.Errorf("By(%v, %d) = %v, %v, want %v", c.r, c.n, got, e, c.want)
		}
	}
}

// TestByOfBy holds for a second number above 0: behind a negative one the order begins at another end.
func TestByOfBy(t *testing.T) {
	for _, r := range small(-5, 6) {
		for m := -7; m <= 7; m++ {
			for n := 1; n <= 7; n++ {
				if m == 0 {
					continue
				}
				once, e := span.By(r, m)
				twice, f := span.By(once, n)
				if want, g := span.By(r, m*n); twice != want || e != api.OK || f != api.OK || g != api.OK {
					t.Errorf("By(By(%v, %d), %d) = %v, want %v", r, m, n, twice, want)
				}
			}
		}
	}
}

// TestCount takes the first and the last numbers, and the least and the greatest ones.
func TestCount(t *testing.T) {
	for _, r := range small(-5, 6) {
		l := numbers(r)
		up := slices.Sorted(slices.Values(l))
		for _, n := range append(far(), -13, -12, -11, -10, -9, -8, -7, -6, -5, -4, -3, -2, 2, 3, 4, 5, 6, 7, 8, 9, 10, 11, 12, 13) {
			first, e := span.Count(r, n)
			inner, f := span.Interior(r, n)
			if n > len(l) || n < -len(l) {
				if first != (api.Range{}) || e != api.ErrCount || inner != (api.Range{}) || f != api.ErrCount {
					t.Errorf("Count(%v, %d) = %v, %v; Interior %v, %v", r, n, first, e, inner, f)
				}
				continue
			}
			want, within := l[:max(n, 0)], up[len(up)-max(n, 0):]
			if n < 0 {
				want, within = l[len(l)+n:], up[:-n]
			}
			if first != rangeOf(want) || e != api.OK {
				t.Errorf("Count(%v, %d) = %v, %v, want %v", r, n, first, e, want)
			}
			if inner != rangeOf(like(r, slices.Clone(within))) || f != api.OK {
				t.Errorf("Interior(%v, %d) = %v, %v, want %v", r, n, inner, f, within)
			}
		}
	}
}

// TestTranslate adds numbers.
func TestTranslate(t *testing.T) {
	for _, r := range small(-5, 6) {
		for n := -20; n <= 20; n++ {
			var want []int
			for _, x := range numbers(r) {
				want = append(want, x+n)
			}
			got, e := span.Translate(r, n)
			if got != rangeOf(want) || e != api.OK {
				t.Errorf("Translate(%v, %d) = %v, %v, want %v", r, n, got, e, want)
			}
			if back, e := span.Translate(got, -n); back != r || e != api.OK {
				t.Errorf("Translate(%v, %d) and back = %v, %v", r, n, back, e)
			}
		}
	}
	r := row(-3, 5, -4)
	for _, n := range append(far(), most-5, most-4, -most+3, -most+2) {
		got, e := span.Translate(r, n)
		if n > most-5 || n < -most+3 {
			if got != (api.Range{}) || e != api.ErrRange {
				t.Errorf("Translate(%v, %d) = %v, %v", r, n, got, e)
			}
		} else if got != row(-3+n, 5+n, -4) || e != api.OK {
			t.Errorf("Translate(%v, %d) = %v, %v", r, n, got, e)
		}
	}
	if got, e := span.Translate(row(most, most, 1), -2*most); got != row(-most, -most, 1) || e != api.OK {
		t.Errorf("Translate from end to end = %v, %v", got, e)
	}
}

// TestExpand moves both ends.
func TestExpand(t *testing.T) {
	for _, r := range small(-5, 6) {
		l := slices.Sorted(slices.Values(numbers(r)))
		for n := -14; n <= 14; n++ {
			var want []int
			switch {
			case n < 0 && len(l) > -2*n:
				want = slices.Clone(l[-n : len(l)+n])
			case n >= 0 && len(l) > 0:
				for x := l[0] - n*step(r); x <= l[len(l)-1]+n*step(r); x += step(r) {
					want = append(want, x)
				}
			}
			got, e := span.Expand(r, n)
			if got != rangeOf(like(r, want)) || e != api.OK {
				t.Errorf("Expand(%v, %d) = %v, %v, want %v", r, n, got, e, want)
			}
			if back, e := span.Expand(got, -n); n > 0 && (back != r || e != api.OK) {
				t.Errorf("Expand(%v, %d) and back = %v, %v", r, n, back, e)
			}
		}
	}
	for _, c := range []struct {
		r    api.Range
		n    int
		want api.Range
		e    api.Errno
	}{
		{row(0, 0, 1), most, row(-most, most, 1), api.OK},
		{row(0, 0, 1), most + 1, api.Range{}, api.ErrRange},
		{row(1, 1, 1), most, api.Range{}, api.ErrRange},
		{row(-1, -1, 1), most, api.Range{}, api.ErrRange},
		{row(0, 4, -2), most/2 - 2, row(4-most, most, -2), api.OK},
		{row(0, 4, -2), most/2 - 1, api.Range{}, api.ErrRange},
		{row(-most, most, 2*most), 1, api.Range{}, api.ErrRange},
		{row(-most, most, 1), -most, row(0, 0, 1), api.OK},
		{row(-most, most, 1), -most - 1, none, api.OK},
		{row(-most, most, 1), math.MinInt, none, api.OK},
		{row(-most, most, 2*most), math.MinInt, none, api.OK},
		{row(-most, most, 2*most), math.MaxInt, api.Range{}, api.ErrRange},
		{row(0, 1, 1), math.MaxInt, api.Range{}, api.ErrRange},
		{row(0, 2, 2), math.MinInt / 2, none, api.OK},
		{row(0, 2, 2), 1 << 62, api.Range{}, api.ErrRange},
		{row(0, 2, 2), 1 << 63 >> 1, api.Range{}, api.ErrRange},
	} {
		if got, e := span.Expand(c.r, c.n); got != c.want || e != c.e {
			t.Errorf("Expand(%v, %d) = %v, %v, want %v, %v", c.r, c.n, got, e, c.want, c.e)
		}
	}
}

// TestExterior takes the numbers behind an end.
func TestExterior(t *testing.T) {
	for _, r := range small(-5, 6) {
		l := slices.Sorted(slices.Values(numbers(r)))
		for n := -14; n <= 14 && len(l) > 0; n++ {
			var want []int
			for k := 1; k <= n; k++ {
				want = append(want, l[len(l)-1]+k*step(r))
			}
			for k := 1; k <= -n; k++ {
				want = append(want, l[0]-k*step(r))
			}
			if got, e := span.Exterior(r, n); got != rangeOf(like(r, want)) || e != api.OK {
				t.Errorf("Exterior(%v, %d) = %v, %v, want %v", r, n, got, e, want)
			}
		}
	}
	for _, c := range []struct {
		r    api.Range
		n    int
		want api.Range
		e    api.Errno
	}{
		{row(most, most, 1), 0, none, api.OK},
		{row(-most, most, 2*most), 0, none, api.OK},
		{row(most, most, 1), 1, api.Range{}, api.ErrRange},
		{row(-most, -most, 1), -1, api.Range{}, api.ErrRange},
		{row(most, most, 1), -2 * most, row(-most, most-1, 1), api.OK},
		{row(most, most, 1), -2*most - 1, api.Range{}, api.ErrRange},
		{row(-most, -most, 1), 2 * most, row(1-most, most, 1), api.OK},
		{row(-most, -most, 1), 2*most + 1, api.Range{}, api.ErrRange},
		{row(0, most/2, -most/2), 1, row(most, most, 1), api.OK},
		{row(0, most/2, -most/2), -2, row(-most, -most/2, -most/2), api.OK},
		{row(0, 2, 2), math.MinInt, api.Range{}, api.ErrRange},
		{row(0, 2, 2), math.MaxInt, api.Range{}, api.ErrRange},
		{row(0, 2, 2), 1 << 62, api.Range{}, api.ErrRange},
		{row(0, 2, 2), -1 << 62, api.Range{}, api.ErrRange},
	} {
		if got, e := span.Exterior(c.r, c.n); got != c.want || e != c.e {
			t.Errorf("Exterior(%v, %d) = %v, %v, want %v, %v", c.r, c.n, got, e, c.want, c.e)
		}
	}
}

// TestEmpty moves the empty range, which stays by every number.
func TestEmpty(t *testing.T) {
	for _, n := range far() {
		for name, f := range map[string]func(api.Range, int) (api.Range, api.Errno){"Translate": span.Translate, "Expand": span.Expand, "Exterior": span.Exterior} {
			if got, e := f(none, n); got != none || e != api.OK {
				t.Errorf("%s of nothing by %d = %v, %v", name, n, got, e)
			}
		}
	}
	for _, n := range []int{-most, -1, 1, most} {
		if got, e := span.By(none, n); got != none || e != api.OK {
			t.Errorf("By of nothing by %d = %v, %v", n, got, e)
		}
	}
}
