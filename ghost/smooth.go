package ghost

import (
	"math"

	"raddle/api"
)

// Smooth replaces each element by a weighted sum of those around it, each locale by what it has.
func Smooth(a Array, weights []int) (Array, api.Errno) {
	l, e := open(a)
	if e != api.OK {
		return Array{}, e
	}
	count := 0
	for range l.offsets() {
		count++
	}
	if len(weights) != count {
		return Array{}, api.ErrCount
	}
	for locale := range a.Locales {
		if len(l.stale(a, locale)) > 0 {
			return Array{}, ErrStale
		}
	}
	smooth := a.clone()
	for position, owner := range l.owner {
		sum, ok := l.weighted(a, owner, position, weights)
		if !ok {
			return Array{}, api.ErrOverflow
		}
		*l.element(smooth, owner, position) = sum
	}
	return smooth, api.OK
}

// weighted returns the weighted sum of what a locale has around a position, and whether it is an int, as is all on the way to it.
func (l layout) weighted(a Array, locale, position int, weights []int) (int, bool) {
	sum, next := 0, 0
	for offset := range l.offsets() {
		weight := weights[next]
		next++
		other, ok := l.beside(position, offset)
		if !ok {
			continue
		}
		product, ok := times(weight, *l.element(a, locale, other))
		if !ok {
			return 0, false
		}
		sum, ok = plus(sum, product)
		if !ok {
			return 0, false
		}
	}
	return sum, true
}

// plus returns a sum, and whether it is an int.
func plus(a, b int) (int, bool) {
	sum := a + b
	return sum, (sum < a) == (b < 0)
}

// times returns a product, and whether it is an int.
func times(a, b int) (int, bool) {
	product := a * b
	return product, a == 0 || product/a == b && (a != -1 || b != math.MinInt)
}
