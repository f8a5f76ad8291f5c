package span

import "raddle/api"

// maxPieces is how many ranges Subtract returns at most.
const maxPieces = 1000

// Intersect returns the numbers of both ranges, in the direction of the first one.
func Intersect(a, b api.Range) (api.Range, api.Errno) {
	if e := checkBoth(a, b); e != api.OK {
		return api.Range{}, e
	}
	return common(open(a), open(b)).normal(), api.OK
}

// Subtract returns the numbers of a that b does not have, as a list of ranges.
func Subtract(a, b api.Range) ([]api.Range, api.Errno) {
	if e := checkBoth(a, b); e != api.OK {
		return nil, e
	}
	if Size(a) == 0 {
		return nil, api.OK
	}
	whole := open(a)
	c := common(whole, open(b)).normal()
	if Size(c) == 0 {
		return []api.Range{a}, api.OK
	}
	return without(whole, open(c))
}

// without returns the numbers of a that c, which has one or more of them and no others, does not have.
func without(a, c progression) ([]api.Range, api.Errno) {
	var pieces []api.Range
	cut := func(low, high, step int) {
		if low <= high {
			pieces = append(pieces, progression{low: low, high: high, step: step, down: a.down}.normal())
		}
	}
	cut(a.low, c.low-a.step, a.step)
	for ahead := a.step; ahead < c.step && len(pieces) <= maxPieces; ahead += a.step {
		cut(c.low+ahead, c.high-c.step+ahead, c.step)
	}
	cut(c.high+a.step, a.high, a.step)
	if len(pieces) > maxPieces {
		return nil, api.ErrLarge
	}
	return pieces, api.OK
}

// Hull returns the least range that has the numbers of both.
func Hull(a, b api.Range) (api.Range, api.Errno) {
	if e := checkBoth(a, b); e != api.OK {
		return api.Range{}, e
	}
	p, q := open(a), open(b)
	switch {
	case Size(a) == 0:
		p = q
	case Size(b) > 0:
		// The new step divides both old ones, and what the two ranges are apart.
		step, _ := euclid(p.gap(), q.gap())
		step, _ = euclid(step, int(magnitude(p.low-q.low)))
		p = progression{low: min(p.low, q.low), high: max(p.high, q.high), step: step}
	}
	p.down = false
	return p.normal(), api.OK
}

// Within reports whether all numbers of a are in b.
func Within(a, b api.Range) (bool, api.Errno) {
	if e := checkBoth(a, b); e != api.OK {
		return false, e
	}
	return Size(common(open(a), open(b)).normal()) == Size(a), api.OK
}

// checkBoth returns the error of the first of two ranges that has one.
func checkBoth(a, b api.Range) api.Errno {
	if e := Check(a); e != api.OK {
		return e
	}
	return Check(b)
}

// common returns the numbers of both, in the direction of a.
func common(a, b progression) progression {
	divisor, factor := euclid(a.step, b.step)
	apart := b.low - a.low
	if apart%divisor != 0 {
		return nothing()
	}
	turns := modulo(apart/divisor*factor, b.step/divisor)
	// The numbers that fit both steps differ from meeting by multiples of step.
	meeting := a.low + turns*a.step
	step := a.step / divisor * b.step
	low, high := max(a.low, b.low), min(a.high, b.high)
	return progression{
		low:  low + modulo(meeting-low, step),
		high: high - modulo(high-meeting, step),
		step: step,
		down: a.down,
	}
}
