package view

import (
	"raddle/api"
	"raddle/domain"
	"raddle/span"
)

// Check returns the error of a view.
func Check(v View) api.Errno {
	if !limited(v.Domain) || !limited(v.Base) || len(v.Axes) != len(v.Base.Dims) || !covered(v) {
		return ErrView
	}
	for i, x := range v.Axes {
		if !leads(v, x, v.Base.Dims[i]) {
			return ErrView
		}
	}
	return api.OK
}

// limited reports whether a domain is right, and small enough for an array.
func limited(d api.Domain) bool {
	return domain.Check(d) == api.OK && domain.Size(d) <= api.MaxElements
}

// covered reports whether the axes are of dimensions that exist, and each dimension of two numbers or more has one.
func covered(v View) bool {
	var used [2]bool
	for _, x := range v.Axes {
		if x.Of < -1 || x.Of >= len(v.Domain.Dims) {
			return false
		}
		if x.Of >= 0 {
			used[x.Of] = true
		}
	}
	for i, r := range v.Domain.Dims {
		if span.Size(r) >= 2 && !used[i] {
			return false
		}
	}
	return true
}

// leads reports whether an axis of an existing dimension leads from each index of the view to a number of a range of the base.
func leads(v View, x Axis, base api.Range) bool {
	if domain.Size(v.Domain) == 0 {
		return x.From == 0 && x.Step == 0
	}
	size := 1
	if x.Of >= 0 {
		size = span.Size(v.Domain.Dims[x.Of])
	}
	if (x.Step == 0) != (size == 1) {
		return false
	}
	// A From or a Step that is too large for the limits shows at once, in the first or in the second number: no product can be too large for an int.
	for k := range size {
		if !span.Has(base, x.From+k*x.Step) {
			return false
		}
	}
	return true
}
