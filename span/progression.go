package span

import "raddle/api"

// progression is what a range is made of. Its numbers are low, low + step, .. up to high, from which low differs by a multiple of step; there is none if low is greater than high.
type progression struct {
	low, high, step int
	down            bool
}

// nothing returns what the empty range is made of.
func nothing() progression { return progression{low: 1, high: 0, step: 1} }

// open returns what a right range is made of.
func open(r api.Range) progression {
	return progression{low: r.Low, high: r.High, step: int(magnitude(r.Stride)), down: r.Stride < 0}
}

// normal returns the one right range with these numbers in this order.
func (p progression) normal() api.Range {
	switch {
	case p.low > p.high:
		p = nothing()
	case p.low == p.high:
		p.step, p.down = 1, false
	}
	r := api.Range{Low: p.low, High: p.high, Stride: p.step}
	if p.down {
		r.Stride = -p.step
	}
	return r
}

// size returns the number of numbers of a right range: the ends of the empty one are such that it is 0.
func (p progression) size() int { return (p.high-p.low)/p.step + 1 }

// gap returns how far numbers next to each other are apart; 0 if there are not two.
func (p progression) gap() int {
	if p.low >= p.high {
		return 0
	}
	return p.step
}

// nth returns the number with a position that exists.
func (p progression) nth(k int) int {
	if p.down {
		return p.high - k*p.step
	}
	return p.low + k*p.step
}

// limited reports whether a number may be one of a range.
func limited(n int) bool { return n >= -MaxNumber && n <= MaxNumber }

// clamp returns n, or, for a number that is farther from 0 than any two numbers of ranges are apart, one that is just so far: products with it are ints, and leave the limits as those with n do.
func clamp(n int) int { return max(-2*MaxNumber-1, min(n, 2*MaxNumber+1)) }

// magnitude returns the absolute value of a number, which need not be an int.
func magnitude(n int) uint64 {
	if n < 0 {
		return -uint64(n)
	}
	return uint64(n)
}

// modulo returns the number from 0 to n - 1 that differs from a by a multiple of n.
func modulo(a, n int) int { return (a%n + n) % n }

// euclid returns the greatest common divisor of two numbers, and the factor by which a has to be multiplied to differ from it by a multiple of b.
func euclid(a, b int) (divisor, factor int) {
	start := []int{a, 1, b, 0}
	// Each pair is a remainder and its factor of a.
	last, next := [2]int(start[:2]), [2]int(start[2:])
	for next[0] != 0 {
		q := last[0] / next[0]
		last, next = next, [2]int{last[0] - q*next[0], last[1] - q*next[1]}
	}
	return last[0], last[1]
}
