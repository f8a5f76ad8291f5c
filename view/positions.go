package view

import (
	"iter"
	"slices"

	"raddle/api"
	"raddle/domain"
	"raddle/span"
)

// layout says where the elements of an array stand: the strides are how far they are apart in each dimension.
type layout struct {
	base    api.Domain
	strides [2]int
}

// layoutOf returns the layout of an array over a right domain.
func layoutOf(base api.Domain) layout {
	l := layout{base: base}
	apart := 1
	for i, r := range slices.Backward(base.Dims) {
		l.strides[i] = apart
		apart *= span.Size(r)
	}
	return l
}

// position returns the position of the element with an index.
func (l layout) position(numbers [2]int) int {
	sum := 0
	for i, r := range l.base.Dims {
		k, _ := span.Position(r, numbers[i])
		sum += k * l.strides[i]
	}
	return sum
}

// fits reports whether elements are as many as those of the array.
func (l layout) fits(elements []int) bool { return len(elements) == domain.Size(l.base) }

// led returns the index of the base to which an index of a view leads.
func led(v View, index [2]int) [2]int {
	var numbers [2]int
	for i, x := range v.Axes {
		numbers[i] = x.From
		if x.Of >= 0 {
			k, _ := span.Position(v.Domain.Dims[x.Of], index[x.Of])
			numbers[i] += k * x.Step
		}
	}
	return numbers
}

// all yields the positions of the indices of a right view, in order.
func all(v View) iter.Seq[int] {
	return func(yield func(int) bool) {
		base := layoutOf(v.Base)
		for _, index := range domain.All(v.Domain) {
			if !yield(base.position(led(v, index))) {
				return
			}
		}
	}
}

// At returns the position in the array of an index of the view.
func At(v View, index []int) (int, api.Errno) {
	if Check(v) != api.OK {
		return 0, ErrView
	}
	if !domain.Has(v.Domain, index) {
		return 0, api.ErrBounds
	}
	var numbers [2]int
	copy(numbers[:], index)
	return layoutOf(v.Base).position(led(v, numbers)), api.OK
}

// Positions returns the positions of all indices of a view, in order.
func Positions(v View) ([]int, api.Errno) {
	if Check(v) != api.OK {
		return nil, ErrView
	}
	return slices.Collect(all(v)), api.OK
}

// Runs returns the positions of a view as runs: the first one, and how many follow one by one.
func Runs(v View) ([][2]int, api.Errno) {
	if Check(v) != api.OK {
		return nil, ErrView
	}
	var runs [][2]int
	for k := range all(v) {
		last := len(runs) - 1
		if last >= 0 && runs[last][0]+runs[last][1] == k {
			runs[last][1]++
		} else {
			runs = append(runs, [2]int{k, 1})
		}
	}
	return runs, api.OK
}

// Overlap returns the least position that two views of one array share.
func Overlap(a, b View) (int, bool, api.Errno) {
	if Check(a) != api.OK || Check(b) != api.OK {
		return 0, false, ErrView
	}
	if !slices.Equal(a.Base.Dims, b.Base.Dims) || a.Base.Map != b.Base.Map {
		return 0, false, ErrShape
	}
	has := make([]bool, domain.Size(a.Base))
	for k := range all(a) {
		has[k] = true
	}
	least, found := 0, false
	for k := range all(b) {
		if has[k] && (!found || k < least) {
			least, found = k, true
		}
	}
	return least, found, api.OK
}

// Get returns the elements of a view of an array.
func Get(v View, elements []int) ([]int, api.Errno) {
	if Check(v) != api.OK {
		return nil, ErrView
	}
	if !layoutOf(v.Base).fits(elements) {
		return nil, api.ErrCount
	}
	var values []int
	for k := range all(v) {
		values = append(values, elements[k])
	}
	return values, api.OK
}

// Put returns the elements of the array with those of the view changed.
func Put(v View, elements, values []int) ([]int, api.Errno) {
	if Check(v) != api.OK {
		return nil, ErrView
	}
	if !layoutOf(v.Base).fits(elements) || len(values) != domain.Size(v.Domain) {
		return nil, api.ErrCount
	}
	elements = slices.Clone(elements)
	next := 0
	for k := range all(v) {
		elements[k] = values[next]
		next++
	}
	return elements, api.OK
}
