package irregular_test

import (
	"math"
	"slices"
	"testing"

	"raddle/api"
	"raddle/irregular"
)

// rowsOf returns a sparse domain by rows, as the description says.
func rowsOf(s irregular.Sparse) irregular.Rows {
	rows, columns := len(indices(of(s.Parent.Dims[0]))), len(indices(of(s.Parent.Dims[1])))
	r := irregular.Rows{Starts: []int{0}}
	for i := range rows {
		for _, k := range s.At {
			if k >= i*columns && k < (i+1)*columns {
				r.Columns = append(r.Columns, k-i*columns)
			}
		}
		r.Starts = append(r.Starts, len(r.Columns))
	}
	return r
}

// TestRows goes to rows and back.
func TestRows(t *testing.T) {
	for _, s := range sparses() {
		r, e := irregular.ByRows(s)
		if len(s.Parent.Dims) == 1 {
			if len(r.Starts) != 0 || len(r.Columns) != 0 || e != irregular.ErrParent {
				t.Errorf("ByRows(%v) = %v, %v", s, r, e)
			}
			continue
		}
		want := rowsOf(s)
		if !slices.Equal(r.Starts, want.Starts) || !slices.Equal(r.Columns, want.Columns) || e != api.OK {
			t.Errorf("ByRows(%v) = %v, %v, want %v", s, r, e, want)
		}
		if back, e := irregular.FromRows(s.Parent, want); !same(back, s) || e != api.OK {
			t.Errorf("FromRows(%v, %v) = %v, %v, want %v", s.Parent, want, back, e, s.At)
		}
	}
}

// TestRowsExample asks for the example.
func TestRowsExample(t *testing.T) {
	s, e := irregular.Of(of(row(0, 2, 1), row(0, 3, 1)), [][]int{{2, 1}, {0, 3}, {0, 0}})
	if !slices.Equal(s.At, []int{0, 3, 9}) || e != api.OK {
		t.Errorf("Of = %v, %v", s, e)
	}
	r, e := irregular.ByRows(s)
	if !slices.Equal(r.Starts, []int{0, 2, 2, 3}) || !slices.Equal(r.Columns, []int{0, 3, 1}) || e != api.OK {
		t.Errorf("ByRows = %v, %v", r, e)
	}
}

// TestRowsNarrow asks for very many rows without columns, and none with very many.
func TestRowsNarrow(t *testing.T) {
	wide := row(-1000000, 1000000, 1)
	r, e := irregular.ByRows(sparse(of(wide, none)))
	if len(r.Starts) != 2000002 || slices.Max(r.Starts) != 0 || len(r.Columns) != 0 || e != api.OK {
		t.Errorf("ByRows = %d rows, %v", len(r.Starts), e)
	}
	if s, e := irregular.FromRows(of(wide, none), r); !same(s, sparse(of(wide, none))) || e != api.OK {
		t.Errorf("FromRows = %v, %v", s, e)
	}
	r, e = irregular.ByRows(sparse(of(none, wide)))
	if !slices.Equal(r.Starts, []int{0}) || len(r.Columns) != 0 || e != api.OK {
		t.Errorf("ByRows = %v, %v", r, e)
	}
	if s, e := irregular.FromRows(of(none, wide), r); !same(s, sparse(of(none, wide))) || e != api.OK {
		t.Errorf("FromRows = %v, %v", s, e)
	}
	if s, e := irregular.Transpose(sparse(of(none, wide))); !same(s, sparse(of(wide, none))) || e != api.OK {
		t.Errorf("Transpose = %v, %v", s, e)
	}
}

// TestFromRowsErrors asks for the errors of FromRows, in their order.
func TestFromRowsErrors(t *testing.T) {
	grid, tall := of(row(0, 2, 1), row(0, 6, 2)), of(row(0, 9, 1), row(0, 599, 1))
	var full []int
	for range 9 {
		full = append(full, count(0, 554)...)
	}
	full = append(full, 0, 1, 2, 3, 4, 5) // 5001 columns of ten rows
	tenth := []int{0, 555, 1110, 1665, 2220, 2775, 3330, 3885, 4440, 4995}
	for _, c := range []struct {
		parent          api.Domain
		starts, columns []int
		e               api.Errno
	}{
		{grid, []int{0, 2, 2, 3}, []int{0, 3, 1}, api.OK},
		{grid, []int{0, 0, 0, 0}, nil, api.OK},
		{grid, []int{0, 4, 8, 12}, []int{0, 1, 2, 3, 0, 1, 2, 3, 0, 1, 2, 3}, api.OK},
		{tall, append(slices.Clone(tenth), 5000), full[:5000], api.OK},
		{tall, append(slices.Clone(tenth), 5001), full, api.ErrCount},
		{tall, append(slices.Clone(tenth), 7), append(slices.Clone(full), -1), api.ErrCount},
		{grid, nil, nil, api.ErrCount},
		{grid, []int{0, 0, 0}, nil, api.ErrCount},
		{grid, []int{0, 0, 0, 0, 0}, nil, api.ErrCount},
		{grid, []int{1, 0, 0}, []int{9}, api.ErrCount},
		{grid, []int{1, 1, 1, 1}, []int{0}, irregular.ErrOrder},
		{grid, []int{-1, 0, 0, 0}, nil, irregular.ErrOrder},
		{grid, []int{0, 0, 0, 0}, []int{0}, irregular.ErrOrder},
		{grid, []int{0, 0, 0, 2}, []int{0}, irregular.ErrOrder},
		{grid, []int{0, 2, 1, 3}, []int{0, 1, 2}, irregular.ErrOrder},
		{grid, []int{0, 4, 3, 3}, []int{0, 1, 2}, irregular.ErrOrder},
		{grid, []int{0, -1, 2, 3}, []int{0, 1, 2}, irregular.ErrOrder},
		{grid, []int{0, math.MaxInt, math.MinInt, 3}, []int{0, 1, 2}, irregular.ErrOrder},
		{grid, []int{0, 2, 2, 2}, []int{1, 1}, irregular.ErrOrder},
		{grid, []int{0, 2, 2, 2}, []int{2, 1}, irregular.ErrOrder},
		{grid, []int{0, 1, 1, 1}, []int{4}, irregular.ErrOrder},
		{grid, []int{0, 1, 1, 1}, []int{-1}, irregular.ErrOrder},
		{grid, []int{0, 0, 0, 1}, []int{4}, irregular.ErrOrder},
		{grid, []int{0, 0, 0, 2}, []int{0, 0}, irregular.ErrOrder},
		{grid, []int{0, 1, 1, 1}, []int{math.MaxInt}, irregular.ErrOrder},
		{of(row(0, 1, 1), none), []int{0, 0, 1}, []int{0}, irregular.ErrOrder},
		{of(none, row(0, 1, 1)), []int{0}, []int{0}, irregular.ErrOrder},
		{of(none, row(0, 1, 1)), nil, nil, api.ErrCount},
		{of(row(0, 2, 1)), nil, nil, irregular.ErrParent},
		{of(row(0, 1000000, 1)), nil, nil, api.ErrLarge},
		{of(row(0, 1, 2)), nil, nil, api.ErrForm},
		{of(row(0, 1, 2), row(0, 1, 1)), nil, nil, api.ErrForm},
		{of(row(0, 1000, 1), row(0, 999, 1)), nil, nil, api.ErrLarge},
		{of(), nil, nil, api.ErrCount},
	} {
		r := irregular.Rows{Starts: c.starts, Columns: c.columns}
		s, e := irregular.FromRows(c.parent, r)
		if e != c.e || e != api.OK && !zero(s) || e == api.OK && irregular.Check(s) != api.OK {
			t.Errorf("FromRows(%v, %v, %d columns) = %v, %v, want %v", c.parent, c.starts, len(c.columns), s, e, c.e)
		}
	}
}

// TestTranspose exchanges the numbers of indices.
func TestTranspose(t *testing.T) {
	for _, s := range sparses() {
		got, e := irregular.Transpose(s)
		if len(s.Parent.Dims) == 1 {
			if !zero(got) || e != irregular.ErrParent {
				t.Errorf("Transpose(%v) = %v, %v", s, got, e)
			}
			continue
		}
		parent := mapped(of(s.Parent.Dims[1], s.Parent.Dims[0]), s.Parent.Map)
		l := picked(indices(s.Parent), s.At)
		for i, index := range l {
			l[i] = []int{index[1], index[0]}
		}
		want, _ := irregular.Of(parent, l)
		if !same(got, want) || e != api.OK {
			t.Errorf("Transpose(%v) = %v, %v, want %v", s, got, e, want)
		}
		if back, e := irregular.Transpose(got); !same(back, s) || e != api.OK {
			t.Errorf("Transpose(%v) and back = %v, %v", s, back, e)
		}
	}
}
