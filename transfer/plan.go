package transfer

import (
	"iter"
	"maps"
	"slices"

	"raddle/api"
	"raddle/dmap"
	"raddle/domain"
)

// maxStrips is how many strips a plan has at most.
const maxStrips = 10000

// notANumber has the bits of a sum that is no number.
const notANumber = 0x7fc00000

// checkAll returns the error of domains over locales.
func checkAll(locales int, domains ...api.Domain) api.Errno {
	for _, d := range domains {
		if e := dmap.Check(d, locales); e != api.OK {
			return e
		}
	}
	for _, d := range domains {
		if domain.Size(d) > api.MaxElements {
			return api.ErrLarge
		}
	}
	return api.OK
}

// checkShapes returns the error of two domains over locales that are to have the same shape.
func checkShapes(from, to api.Domain, locales int) api.Errno {
	if e := checkAll(locales, from, to); e != api.OK {
		return e
	}
	if !slices.EqualFunc(from.Dims, to.Dims, alike) {
		return api.ErrCount
	}
	return api.OK
}

// alike reports whether two ranges of domains have as many numbers.
func alike(a, b api.Range) bool {
	return domain.Size(api.Domain{Dims: []api.Range{a}}) == domain.Size(api.Domain{Dims: []api.Range{b}})
}

// fits reports whether parts have as many elements as those of a domain.
func fits(d api.Domain, locales int, parts [][]int) bool {
	counts, _ := dmap.Counts(d, locales)
	return slices.Equal(sizes(parts), counts)
}

// place is where an element is: its locale, and its local number there.
type place struct{ locale, at int }

// placesOf returns the places of the elements of a domain, by position.
func placesOf(d api.Domain, locales int) []place {
	places := make([]place, domain.Size(d))
	for locale := range locales {
		part, _ := dmap.Part(d, locales, locale)
		for at, position := range part {
			places[position] = place{locale: locale, at: at}
		}
	}
	return places
}

// common yields the positions, in both domains, of the indices that both have.
func common(from, to api.Domain) iter.Seq2[int, int] {
	return func(yield func(int, int) bool) {
		for position, index := range domain.All(from) {
			other, ok := domain.Position(to, index[:len(to.Dims)])
			if ok && !yield(position, other) {
				return
			}
		}
	}
}

// same yields each of so many positions with itself.
func same(size int) iter.Seq2[int, int] {
	return func(yield func(int, int) bool) {
		for position := range size {
			if !yield(position, position) {
				return
			}
		}
	}
}

// inOrder returns the keys of a map in order: by senders, then by receivers.
func inOrder[T any](m map[[2]int]T) [][2]int {
	return slices.SortedFunc(maps.Keys(m), func(a, b [2]int) int { return slices.Compare(a[:], b[:]) })
}

// planOf returns the plan of an assignment.
func planOf(pairs iter.Seq2[int, int], senders, receivers []place) Plan {
	messages := map[[2]int][]Strip{}
	carry := func(from, to place) {
		ends := [2]int{from.locale, to.locale}
		messages[ends] = carried(messages[ends], from.at, to.at)
	}
	for first, second := range pairs {
		carry(senders[first], receivers[second])
	}
	var p Plan
	for _, ends := range inOrder(messages) {
		p = append(p, Message{Sender: ends[0], Receiver: ends[1], Strips: messages[ends]})
	}
	return p
}

// carried returns the strips of a message with an element more.
func carried(strips []Strip, from, to int) []Strip {
	if len(strips) > 0 {
		last := &strips[len(strips)-1]
		if last.Count == 1 {
			last.Stride, last.Step = from-last.From, to-last.To
		}
		if from == last.From+last.Count*last.Stride && to == last.To+last.Count*last.Step {
			last.Count++
			return strips
		}
	}
	return append(strips, Strip{From: from, To: to, Count: 1})
}
