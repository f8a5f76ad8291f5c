package dmap

import (
	"raddle/api"
	"raddle/domain"
	"raddle/span"
)

// run has rows of a domain, which are positions in its first range: from the first one on, step by step, those ahead of the end.
type run struct{ first, end, step int }

// Blocks returns the local part of a locale as domains, where the map has such (all but Hashed), in order.
func Blocks(d api.Domain, locales, locale int) ([]api.Domain, api.Errno) {
	if e := listedAt(d, locales, locale); e != api.OK {
		return nil, e
	}
	if d.Map.Kind == api.Hashed {
		return nil, ErrMap
	}
	if domain.Size(d) == 0 {
		return nil, api.OK
	}
	var blocks list[api.Domain]
	for _, r := range runs(d, locales, locale) {
		if r.first < r.end {
			dims := append([]api.Range{r.of(d.Dims[0])}, d.Dims[1:]...)
			blocks = append(blocks, api.Domain{Dims: dims, Map: d.Map})
		}
	}
	return blocks, api.OK
}

// of returns the numbers of a range that has the rows, of which there is one at least.
func (r run) of(all api.Range) api.Range {
	behind, _ := span.Count(all, r.first-span.Size(all))
	part, _ := span.Count(behind, r.end-r.first)
	part, _ = span.By(part, r.step)
	return part
}

// runs returns the rows of a locale; runs may be empty.
func runs(d api.Domain, locales, locale int) []run {
	rows, size := span.Size(d.Dims[0]), d.Map.Size
	switch d.Map.Kind {
	case api.Block:
		return []run{{first: firstRow(rows, locales, locale), end: firstRow(rows, locales, locale+1), step: 1}}
	case api.Cyclic:
		return []run{{first: locale, end: rows, step: locales}}
	case api.BlockCyclic:
		var l []run
		for first := locale * size; first < rows; first += locales * size {
			l = append(l, run{first: first, end: min(first+size, rows), step: 1})
		}
		return l
	}
	if locale != d.Map.Home {
		return nil
	}
	return []run{{first: 0, end: rows, step: 1}}
}

// firstRow returns the first of the rows that Block gives to a locale, or to those behind it: the least one whose multiple by the locales reaches the locale's by the rows.
func firstRow(rows, locales, locale int) int { return (locale*rows + locales - 1) / locales }
