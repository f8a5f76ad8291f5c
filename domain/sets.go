package domain

import (
	"slices"

	"raddle/api"
	"raddle/span"
)

// Intersect returns the indices of both, with the map of the first one.
func Intersect(a, b api.Domain) (api.Domain, api.Errno) {
	if e := checkBoth(a, b); e != api.OK {
		return api.Domain{}, e
	}
	return each(a, func(i int) (api.Range, api.Errno) {
		return span.Intersect(a.Dims[i], b.Dims[i])
	})
}

// Translate returns the indices with numbers added.
func Translate(d api.Domain, by []int) (api.Domain, api.Errno) {
	return moved(d, by, span.Translate)
}

// Expand returns a domain with more indices at all ends, or fewer.
func Expand(d api.Domain, by []int) (api.Domain, api.Errno) {
	return moved(d, by, span.Expand)
}

// Interior returns the part inside of an end of each dimension; a dimension with 0 stays whole.
func Interior(d api.Domain, by []int) (api.Domain, api.Errno) {
	return moved(d, by, unlessZero(span.Interior))
}

// Exterior returns the part outside of an end of each dimension; a dimension with 0 stays whole.
func Exterior(d api.Domain, by []int) (api.Domain, api.Errno) {
	return moved(d, by, unlessZero(span.Exterior))
}

// moved returns the domain each range of which was moved by the number for it.
func moved(d api.Domain, by []int, move func(api.Range, int) (api.Range, api.Errno)) (api.Domain, api.Errno) {
	if e := Check(d); e != api.OK {
		return api.Domain{}, e
	}
	if len(by) != len(d.Dims) {
		return api.Domain{}, api.ErrCount
	}
	return each(d, func(i int) (api.Range, api.Errno) { return move(d.Dims[i], by[i]) })
}

// unlessZero returns what does the same as move, but lets a range stay for the number 0.
func unlessZero(move func(api.Range, int) (api.Range, api.Errno)) func(api.Range, int) (api.Range, api.Errno) {
	return func(r api.Range, n int) (api.Range, api.Errno) {
		if n == 0 {
			return r, api.OK
		}
		return move(r, n)
	}
}

// each returns the domain, with the map of d, whose ranges a closure gives for the dimensions of d; the first error of it, if there is one.
func each(d api.Domain, give func(i int) (api.Range, api.Errno)) (api.Domain, api.Errno) {
	result := api.Domain{Map: d.Map}
	for i := range d.Dims {
		r, e := give(i)
		if e != api.OK {
			return api.Domain{}, e
		}
		result.Dims = append(result.Dims, r)
	}
	return result, api.OK
}

// Subtract returns the indices of a that b does not have, as a list of domains.
func Subtract(a, b api.Domain) ([]api.Domain, api.Errno) {
	c, e := Intersect(a, b)
	switch {
	case e != api.OK:
		return nil, e
	case product(a.Dims) == 0:
		return nil, api.OK
	case product(c.Dims) == 0:
		return []api.Domain{with(a, a.Dims...)}, api.OK
	}
	var rest []api.Domain
	for i := range a.Dims {
		pieces, e := span.Subtract(a.Dims[i], b.Dims[i])
		if e != api.OK {
			return nil, e
		}
		for _, r := range pieces {
			// Ahead of the dimension i both agree, behind it all of a is left.
			dims := slices.Concat(c.Dims[:i], []api.Range{r}, a.Dims[i+1:])
			rest = append(rest, with(a, dims...))
		}
	}
	return rest, api.OK
}

// with returns the domain of ranges with the map of d.
func with(d api.Domain, dims ...api.Range) api.Domain {
	return api.Domain{Dims: slices.Clone(dims), Map: d.Map}
}

// Within reports whether all indices of a are in b.
func Within(a, b api.Domain) (bool, api.Errno) {
	c, e := Intersect(a, b)
	if e != api.OK {
		return false, e
	}
	return product(c.Dims) == product(a.Dims), api.OK
}

// checkBoth returns the error of two domains: of the first one that has one, and then that of their ranks.
func checkBoth(a, b api.Domain) api.Errno {
	if e := Check(a); e != api.OK {
		return e
	}
	if e := Check(b); e != api.OK {
		return e
	}
	if len(a.Dims) != len(b.Dims) {
		return api.ErrCount
	}
	return api.OK
}
