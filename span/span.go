// Package span is layer 1: ranges of numbers with strides, and their algebra. See shared/doc/01-span.md.
package span

import (
	"iter"

	"raddle/api"
)

// MaxNumber is the greatest number of a range; its negative is the least one.
const MaxNumber = 1000000

// Check returns the error of a range.
func Check(r api.Range) api.Errno {
	switch {
	case r == nothing().normal():
		return api.OK
	case !formed(r):
		return api.ErrForm
	case r.Low < -MaxNumber || r.High > MaxNumber:
		return api.ErrRange
	}
	return api.OK
}

// formed reports whether a range has the form of a single number, or of two or more.
func formed(r api.Range) bool {
	if r.Low == r.High {
		return r.Stride == 1
	}
	// The difference of two numbers may be too large for an int, but never for a uint64.
	return r.Low < r.High && r.Stride != 0 && (uint64(r.High)-uint64(r.Low))%magnitude(r.Stride) == 0
}

// Of returns the normal range with the numbers from low (or, downwards, from high) in steps of stride.
func Of(low, high, stride int) (api.Range, api.Errno) {
	if stride == 0 {
		return api.Range{}, api.ErrArgument
	}
	if !limited(low) || !limited(high) || !limited(stride) {
		return api.Range{}, api.ErrRange
	}
	p := progression{low: low, high: high, step: int(magnitude(stride)), down: stride < 0}
	if low <= high {
		rest := (high - low) % p.step
		if p.down {
			p.low += rest
		} else {
			p.high -= rest
		}
	}
	return p.normal(), api.OK
}

// Size returns the number of numbers.
func Size(r api.Range) int {
	if Check(r) != api.OK {
		return 0
	}
	return open(r).size()
}

// Has reports whether a number is in a range.
func Has(r api.Range, n int) bool {
	_, ok := Position(r, n)
	return ok
}

// Nth returns the number with a position, from 0 on.
func Nth(r api.Range, k int) (int, api.Errno) {
	if e := Check(r); e != api.OK {
		return 0, e
	}
	p := open(r)
	if k < 0 || k >= p.size() {
		return 0, api.ErrRange
	}
	return p.nth(k), api.OK
}

// Position returns the position of a number.
func Position(r api.Range, n int) (int, bool) {
	if Check(r) != api.OK || n < r.Low || n > r.High {
		return 0, false
	}
	p := open(r)
	if (n-p.low)%p.step != 0 {
		return 0, false
	}
	if p.down {
		return (p.high - n) / p.step, true
	}
	return (n - p.low) / p.step, true
}

// All yields the numbers in order.
func All(r api.Range) iter.Seq[int] {
	return func(yield func(int) bool) {
		if Check(r) != api.OK {
			return
		}
		p := open(r)
		for k := range p.size() {
			if !yield(p.nth(k)) {
				return
			}
		}
	}
}

// By returns each n-th number; from the last one on, backwards, if n is negative.
func By(r api.Range, n int) (api.Range, api.Errno) {
	if e := Check(r); e != api.OK {
		return api.Range{}, e
	}
	if n == 0 {
		return api.Range{}, api.ErrArgument
	}
	if !limited(n) {
		return api.Range{}, api.ErrRange
	}
	return moved(r, func(p progression) progression {
		backwards := n < 0
		each := p.step * int(magnitude(n))
		rest := (p.high - p.low) % each
		p.step = each
		p.down = p.down != backwards
		// The first number in the new order stays, the other end gives way.
		if p.down {
			p.low += rest
		} else {
			p.high -= rest
		}
		return p
	})
}

// Count returns the first n numbers; the last ones, if n is negative.
func Count(r api.Range, n int) (api.Range, api.Errno) {
	if r.Stride > 0 {
		// The first numbers of an ascending range are its least ones. (The least int, which has no opposite, is too many in any case.)
		n = -n
	}
	return Interior(r, n)
}

// Translate returns the numbers with n added.
func Translate(r api.Range, n int) (api.Range, api.Errno) {
	n = clamp(n)
	return moved(r, func(p progression) progression {
		p.low += n
		p.high += n
		return p
	})
}

// Expand returns a range with n numbers more at each end, or fewer.
func Expand(r api.Range, n int) (api.Range, api.Errno) {
	n = clamp(n)
	return moved(r, func(p progression) progression {
		p.low -= n * p.step
		p.high += n * p.step
		return p
	})
}

// Interior returns the n greatest numbers; the least ones, if n is negative.
func Interior(r api.Range, n int) (api.Range, api.Errno) {
	if e := Check(r); e != api.OK {
		return api.Range{}, e
	}
	if size := Size(r); n > size || n < -size {
		return api.Range{}, api.ErrCount
	}
	return moved(r, func(p progression) progression {
		if n < 0 {
			p.high = p.low + (-n-1)*p.step
		} else {
			p.low = p.high - (n-1)*p.step
		}
		return p
	})
}

// Exterior returns the n numbers above the greatest one; below the least one, if n is negative.
func Exterior(r api.Range, n int) (api.Range, api.Errno) {
	n = clamp(n)
	return moved(r, func(p progression) progression {
		if n < 0 {
			p.low, p.high = p.low+n*p.step, p.low-p.step
		} else {
			p.low, p.high = p.high+p.step, p.high+n*p.step
		}
		return p
	})
}

// moved returns a range whose ends were moved by a closure. The empty range has no ends: it stays.
func moved(r api.Range, move func(progression) progression) (api.Range, api.Errno) {
	if e := Check(r); e != api.OK {
		return api.Range{}, e
	}
	if Size(r) == 0 {
		return r, api.OK
	}
	result := move(open(r)).normal()
	if Check(result) != api.OK {
		return api.Range{}, api.ErrRange
	}
	return result, api.OK
}
