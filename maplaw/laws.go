package maplaw

import "iter"

// compiled has the formulas of a scheme.
type compiled struct{ owner, local, global, count formula }

// compileAll returns the compiled formulas of a scheme without an error.
func compileAll(s Scheme) compiled {
	return compiled{owner: compile(s.Owner), local: compile(s.Local), global: compile(s.Global), count: compile(s.Count)}
}

// positions yields the positions with the values of the names of formulas that have n, p and i.
func positions(n, p int) iter.Seq2[int, values] {
	return func(yield func(int, values) bool) {
		for i := range n {
			if !yield(i, values{atN: n, atP: p, atI: i}) {
				return
			}
		}
	}
}

// breach returns the first breach for one n and p; it reports whether there is none.
func (c compiled) breach(n, p int) (Breach, bool) {
	sizes, law, locale := c.sizes(n, p)
	if law != 0 {
		return Breach{Law: law, N: n, P: p, Position: -1, Locale: locale}, false
	}
	for i, v := range positions(n, p) {
		if law, locale := c.place(i, v, sizes); law != 0 {
			return Breach{Law: law, N: n, P: p, Position: i, Locale: locale}, false
		}
	}
	return Breach{}, true
}

// sizes returns the counts of all locales, or the law that they break, and the locale that breaks it, or -1.
func (c compiled) sizes(n, p int) (sizes []int, law, locale int) {
	for l := range p {
		size, ok := c.count.value(values{atN: n, atP: p, atL: l})
		switch {
		case !ok:
			return nil, Faultless, l
		case size < 0:
			return nil, CountSum, l
		}
		sizes = append(sizes, size)
	}
	rest := n
	for _, size := range sizes {
		// What is left is never below 0, so that it stays an int whatever the counts are.
		if size > rest {
			return nil, CountSum, -1
		}
		rest -= size
	}
	if rest > 0 {
		return nil, CountSum, -1
	}
	return sizes, 0, -1
}

// place returns the law that a position breaks, or 0, and the locale that the breach tells, or -1.
func (c compiled) place(i int, v values, sizes []int) (law, locale int) {
	owner, ok := c.owner.value(v)
	switch {
	case !ok:
		return Faultless, -1
	case owner < 0 || owner >= len(sizes):
		return OwnerRange, -1
	}
	local, ok := c.local.value(v)
	switch {
	case !ok:
		return Faultless, -1
	case local < 0 || local >= sizes[owner]:
		return LocalRange, owner
	}
	global, ok := c.global.value(values{atN: v[atN], atP: v[atP], atL: owner, atK: local})
	switch {
	case !ok:
		return Faultless, owner
	case global != i:
		return Inverse, owner
	}
	return 0, -1
}
