package ghost

import (
	"iter"
	"slices"

	"raddle/api"
	"raddle/dmap"
	"raddle/domain"
)

// maxIndices is the greatest number of indices of a domain of an array.
const maxIndices = 2000

// checkShape returns the error of a shape.
func checkShape(d api.Domain, locales int, width []int) api.Errno {
	if e := dmap.Check(d, locales); e != api.OK {
		return e
	}
	switch {
	case domain.Size(d) > maxIndices:
		return api.ErrLarge
	case len(width) != len(d.Dims):
		return api.ErrCount
	}
	for _, w := range width {
		if w < 0 || w > MaxWidth {
			return api.ErrRange
		}
	}
	return api.OK
}

// isLocale reports whether a number is one of so many locales.
func isLocale(n, locales int) bool { return n >= 0 && n < locales }

// layout says which positions the locales of a shape have.
type layout struct {
	columns int           // the size of the second dimension; 1 without one
	width   []int         // as of the array
	owner   []int         // of each position
	has     [][]int       // the positions that each locale has, ascending
	places  []map[int]int // where, in the part of each locale, the element with a position stands
}

// layoutOf returns the layout of a shape without an error.
func layoutOf(d api.Domain, locales int, width []int) layout {
	l := layout{columns: 1, width: width, owner: make([]int, domain.Size(d))}
	if len(d.Dims) == 2 {
		l.columns = domain.Size(api.Domain{Dims: d.Dims[1:]})
	}
	own := make([][]int, locales)
	for locale := range locales {
		own[locale], _ = dmap.Part(d, locales, locale)
		for _, position := range own[locale] {
			l.owner[position] = locale
		}
	}
	for _, positions := range own {
		around := l.around(positions)
		places := make(map[int]int, len(around))
		for at, position := range around {
			places[position] = at
		}
		l.has, l.places = append(l.has, around), append(l.places, places)
	}
	return l
}

// around returns, ascending, the positions that are some of the given ones, or near to one.
func (l layout) around(positions []int) []int {
	near := make([]bool, len(l.owner))
	for _, position := range positions {
		for offset := range l.offsets() {
			if other, ok := l.beside(position, offset); ok {
				near[other] = true
			}
		}
	}
	var all []int
	for position, is := range near {
		if is {
			all = append(all, position)
		}
	}
	return all
}

// offsets yields the offsets within the widths in row-major order; the second number is 0 for one dimension.
func (l layout) offsets() iter.Seq[[2]int] {
	rows, columns := l.width[0], 0
	if len(l.width) == 2 {
		columns = l.width[1]
	}
	return func(yield func([2]int) bool) {
		for i := -rows; i <= rows; i++ {
			for k := -columns; k <= columns; k++ {
				if !yield([2]int{i, k}) {
					return
				}
			}
		}
	}
}

// beside returns the position that is an offset away from another one, if there is one.
func (l layout) beside(position int, offset [2]int) (int, bool) {
	row, column := position/l.columns+offset[0], position%l.columns+offset[1]
	if row < 0 || column < 0 || column >= l.columns {
		return 0, false
	}
	other := row*l.columns + column
	return other, other < len(l.owner)
}

// ghosts returns the positions of the ghosts of a locale, ascending.
func (l layout) ghosts(locale int) []int {
	return slices.DeleteFunc(slices.Clone(l.has[locale]), func(position int) bool { return l.owner[position] == locale })
}

// isGhost reports whether a position is that of a ghost of a locale.
func (l layout) isGhost(locale, position int) bool {
	_, has := l.places[locale][position]
	return has && l.owner[position] != locale
}

// element returns the place of the element of an array with a position that a locale has.
func (l layout) element(a Array, locale, position int) *int {
	return &a.Parts[locale][l.places[locale][position]]
}

// stale returns the positions of the ghosts of a locale that differ from their owners, ascending.
func (l layout) stale(a Array, locale int) []int {
	return slices.DeleteFunc(l.ghosts(locale), func(position int) bool {
		return *l.element(a, locale, position) == *l.element(a, l.owner[position], position)
	})
}

// perform changes an array by a move.
func (l layout) perform(a Array, m Move) api.Errno {
	if !isLocale(m.From, a.Locales) || !isLocale(m.To, a.Locales) {
		return api.ErrRange
	}
	for _, position := range m.Positions {
		if !l.isGhost(m.To, position) || l.owner[position] != m.From {
			return ErrOwner
		}
		*l.element(a, m.To, position) = *l.element(a, m.From, position)
	}
	return api.OK
}

// open returns the layout of an array, or the error of the array.
func open(a Array) (layout, api.Errno) {
	if e := checkShape(a.Domain, a.Locales, a.Width); e != api.OK {
		return layout{}, e
	}
	if len(a.Parts) != a.Locales {
		return layout{}, ErrGhost
	}
	l := layoutOf(a.Domain, a.Locales, a.Width)
	for locale, positions := range l.has {
		if len(a.Parts[locale]) != len(positions) {
			return layout{}, ErrGhost
		}
	}
	return l, api.OK
}

// clone returns an array that shares no memory with the old one.
func (a Array) clone() Array {
	a.Domain.Dims = slices.Clone(a.Domain.Dims)
	a.Width = slices.Clone(a.Width)
	a.Parts = copied(a.Parts)
	return a
}

// copied returns lists that share no memory with the old ones.
func copied[T any](lists [][]T) [][]T {
	l := make([][]T, len(lists))
	for i, old := range lists {
		l[i] = slices.Clone(old)
	}
	return l
}
