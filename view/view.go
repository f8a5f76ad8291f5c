// Package view is layer 4: views of arrays: slices, rank changes, reindexing, without copies. See shared/doc/04-view.md.
package view

import (
	"slices"

	"raddle/api"
	"raddle/domain"
	"raddle/span"
)

// Codes of layer 4.
const (
	ErrView  api.Errno = 60 // a view that is not right
	ErrShape api.Errno = 61 // domains of different shapes
)

// Axis says what a number of an index of the base is: From, and Step times the position of a number in the dimension Of of the view; From alone, if Of is -1.
type Axis struct{ Of, From, Step int }

// View is a view: its domain, the domain of the array, and an axis for each dimension of that.
type View struct {
	Domain, Base api.Domain
	Axes         []Axis
}

// Whole returns the view of a whole array.
func Whole(d api.Domain) (View, api.Errno) {
	if e := domain.Check(d); e != api.OK {
		return View{}, e
	}
	if domain.Size(d) > api.MaxElements {
		return View{}, api.ErrLarge
	}
	v := View{Base: d}
	for i := range d.Dims {
		v.Axes = append(v.Axes, Axis{Of: i})
	}
	return moved(v, d, func(x Axis) Axis {
		r := d.Dims[x.Of]
		return Axis{Of: x.Of, From: r.Low, Step: r.Stride}
	}), api.OK
}

// Slice returns the view of the indices of a domain.
func Slice(v View, d api.Domain) (View, api.Errno) {
	if e := checkWith(v, d); e != api.OK {
		return View{}, e
	}
	for i, r := range d.Dims {
		if ok, _ := span.Within(r, v.Domain.Dims[i]); !ok {
			return View{}, api.ErrBounds
		}
	}
	return moved(v, d, func(x Axis) Axis {
		if x.Of < 0 {
			return x
		}
		r, part := v.Domain.Dims[x.Of], d.Dims[x.Of]
		k, _ := span.Position(r, part.Low)
		return Axis{Of: x.Of, From: x.From + k*x.Step, Step: part.Stride / r.Stride * x.Step}
	}), api.OK
}

// Fix returns the view of one dimension, whose other dimension has a number.
func Fix(v View, dimension, n int) (View, api.Errno) {
	if Check(v) != api.OK {
		return View{}, ErrView
	}
	if len(v.Domain.Dims) != 2 {
		return View{}, api.ErrCount
	}
	if dimension != 0 && dimension != 1 {
		return View{}, api.ErrRange
	}
	k, ok := span.Position(v.Domain.Dims[dimension], n)
	if !ok {
		return View{}, api.ErrBounds
	}
	left := api.Domain{Dims: []api.Range{v.Domain.Dims[1-dimension]}, Map: v.Domain.Map}
	return moved(v, left, func(x Axis) Axis {
		switch x.Of {
		case -1:
			return x
		case dimension:
			return Axis{Of: -1, From: x.From + k*x.Step}
		}
		return Axis{Of: 0, From: x.From, Step: x.Step}
	}), api.OK
}

// Reindex returns the view with other indices, in order.
func Reindex(v View, d api.Domain) (View, api.Errno) {
	if e := checkWith(v, d); e != api.OK {
		return View{}, e
	}
	for i, r := range d.Dims {
		if span.Size(r) != span.Size(v.Domain.Dims[i]) {
			return View{}, ErrShape
		}
	}
	return moved(v, d, func(x Axis) Axis { return x }), api.OK
}

// Transpose returns the view with exchanged dimensions.
func Transpose(v View) (View, api.Errno) {
	if Check(v) != api.OK {
		return View{}, ErrView
	}
	if len(v.Domain.Dims) != 2 {
		return View{}, api.ErrCount
	}
	turned := api.Domain{Dims: []api.Range{v.Domain.Dims[1], v.Domain.Dims[0]}, Map: v.Domain.Map}
	return moved(v, turned, func(x Axis) Axis {
		if x.Of >= 0 {
			x.Of = 1 - x.Of
		}
		return x
	}), api.OK
}

// checkWith returns the error of a view, of a domain, and of their ranks.
func checkWith(v View, d api.Domain) api.Errno {
	if Check(v) != api.OK {
		return ErrView
	}
	if e := domain.Check(d); e != api.OK {
		return e
	}
	if len(d.Dims) != len(v.Domain.Dims) {
		return api.ErrCount
	}
	return api.OK
}

// moved returns the view with a domain whose axes are those of v, moved by a closure. Where the domain leaves nothing to step over, the axes have no Step, and without any index no From.
func moved(v View, d api.Domain, move func(Axis) Axis) View {
	w := View{Domain: copied(d), Base: copied(v.Base)}
	for _, x := range v.Axes {
		x = move(x)
		switch {
		case domain.Size(d) == 0:
			x.From, x.Step = 0, 0
		case x.Of >= 0 && span.Size(d.Dims[x.Of]) == 1:
			x.Step = 0
		}
		w.Axes = append(w.Axes, x)
	}
	return w
}

// copied returns a domain in memory of its own.
func copied(d api.Domain) api.Domain {
	return api.Domain{Dims: slices.Clone(d.Dims), Map: d.Map}
}
