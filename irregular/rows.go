package irregular

import (
	"iter"

	"raddle/api"
	"raddle/domain"
)

// Rows is a sparse domain of rank 2 by rows: of each row of the parent where its columns begin in Columns (and, at the end, their number), and the positions of the columns.
type Rows struct{ Starts, Columns []int }

// all yields the columns of each row.
func (r Rows) all() iter.Seq2[int, []int] {
	return func(yield func(int, []int) bool) {
		for row := range len(r.Starts) - 1 {
			if !yield(row, r.Columns[r.Starts[row]:r.Starts[row+1]]) {
				return
			}
		}
	}
}

// shape returns the numbers of rows and of columns of a right domain of rank 2.
func shape(d api.Domain) (rows, columns int) {
	return domain.Size(with(d, d.Dims[0])), domain.Size(with(d, d.Dims[1]))
}

// checkRows returns the error of rows of a parent, which is right and of rank 2.
func checkRows(parent api.Domain, r Rows) api.Errno {
	rows, columns := shape(parent)
	if len(r.Starts) != rows+1 || len(r.Columns) > api.MaxElements {
		return api.ErrCount
	}
	if r.Starts[0] != 0 || r.Starts[rows] != len(r.Columns) {
		return ErrOrder
	}
	for row := range rows {
		if r.Starts[row] > r.Starts[row+1] {
			return ErrOrder
		}
	}
	for _, l := range r.all() {
		if !ascending(l, columns) {
			return ErrOrder
		}
	}
	return api.OK
}

// ByRows returns a sparse domain of rank 2 by rows.
func ByRows(s Sparse) (Rows, api.Errno) {
	if e := Check(s); e != api.OK {
		return Rows{}, e
	}
	if len(s.Parent.Dims) != 2 {
		return Rows{}, ErrParent
	}
	rows, columns := shape(s.Parent)
	r := Rows{Starts: make([]int, 0, rows+1)}
	for row := range rows {
		r.Starts = append(r.Starts, len(r.Columns))
		for n := len(r.Columns); n < len(s.At) && s.At[n]/columns == row; n++ {
			r.Columns = append(r.Columns, s.At[n]%columns)
		}
	}
	r.Starts = append(r.Starts, len(r.Columns))
	return r, api.OK
}

// FromRows returns the sparse domain with some rows.
func FromRows(parent api.Domain, r Rows) (Sparse, api.Errno) {
	if e := checkParent(parent); e != api.OK {
		return Sparse{}, e
	}
	if len(parent.Dims) != 2 {
		return Sparse{}, ErrParent
	}
	if e := checkRows(parent, r); e != api.OK {
		return Sparse{}, e
	}
	_, columns := shape(parent)
	var at []int
	for row, l := range r.all() {
		for _, column := range l {
			at = append(at, row*columns+column)
		}
	}
	return sorted(parent, at)
}

// Transpose returns a sparse domain of rank 2 with its dimensions exchanged.
func Transpose(s Sparse) (Sparse, api.Errno) {
	if e := Check(s); e != api.OK {
		return Sparse{}, e
	}
	if len(s.Parent.Dims) != 2 {
		return Sparse{}, ErrParent
	}
	rows, columns := shape(s.Parent)
	var at []int
	for _, k := range s.At {
		at = append(at, k%columns*rows+k/columns)
	}
	return sorted(with(s.Parent, s.Parent.Dims[1], s.Parent.Dims[0]), at)
}
