package transfer_test

import (
	"math"
	"slices"
	"testing"

	"raddle/api"
	"raddle/dmap"
	"raddle/domain"
	"raddle/transfer"
)

const most = 1000000

var none = api.Range{Low: 1, High: 0, Stride: 1}

// row returns a range by its three fields.
func row(low, high, stride int) api.Range {
	return api.Range{Low: low, High: high, Stride: stride}
}

// with returns the domain of ranges with a map.
func with(m api.Map, l ...api.Range) api.Domain { return api.Domain{Dims: l, Map: m} }

// maps returns maps of all kinds.
func maps() []api.Map {
	return []api.Map{{}, {Home: 1}, {Kind: api.Block}, {Kind: api.Cyclic}, {Kind: api.BlockCyclic, Size: 2}, {Kind: api.BlockCyclic, Size: 3}, {Kind: api.Hashed}}
}

// ranges returns some ranges of several sizes.
func ranges() []api.Range {
	return []api.Range{none, row(3, 3, 1), row(0, 9, 1), row(-4, 20, 2), row(0, 27, 3), row(5, 16, 1), row(-9, -3, 1)}
}

// squares returns the dimensions of some domains of the rank 2.
func squares() [][]api.Range {
	return [][]api.Range{{row(0, 3, 1), row(0, 4, 1)}, {row(0, 9, 3), row(-2, 6, 2)}, {row(2, 5, 1), row(1, 4, 1)}, {none, row(0, 4, 1)}, {row(0, 4, 1), none}, {row(0, 4, 1), row(0, 3, 1)}, {row(0, 19, 1), row(1, 1, 1)}}
}

// pairs hands pairs of domains of the same rank over some numbers of locales to a test.
func pairs(f func(from, to api.Domain, locales int)) {
	var shapes [][]api.Range
	for _, r := range ranges() {
		shapes = append(shapes, []api.Range{r})
	}
	shapes = append(shapes, squares()...)
	for _, locales := range []int{2, 3, 8} {
		for i, m := range maps() {
			for k, n := range maps() {
				for j, a := range shapes {
					for _, b := range [][]api.Range{a, shapes[(j+i+k)%len(shapes)], shapes[(j+2*i+3*k+1)%len(shapes)]} {
						if len(a) == len(b) {
							f(with(m, a...), with(n, b...), locales)
						}
					}
				}
			}
		}
	}
	f(with(api.Map{Kind: api.Block}, row(0, 9, 1)), with(api.Map{Kind: api.Cyclic}, row(0, 9, 1)), 1)
	f(with(api.Map{}, row(0, 9, 1)), with(api.Map{Kind: api.Hashed}, row(3, 12, 1)), 1)
}

// common returns the positions in both domains of the indices that both have, and leaves out no position of the first one but those.
func common(from, to api.Domain) [][2]int {
	var l [][2]int
	for k, index := range domain.All(from) {
		for other, same := range domain.All(to) {
			if index == same {
				l = append(l, [2]int{k, other})
			}
		}
	}
	return l
}

// equals returns the pairs of positions of Assign.
func equals(d api.Domain) [][2]int {
	var l [][2]int
	for k := range domain.Size(d) {
		l = append(l, [2]int{k, k})
	}
	return l
}

// planned returns the plan of an assignment, as the definition says.
func planned(assignment [][2]int, from, to api.Domain, locales int) transfer.Plan {
	messages := map[[2]int][][2]int{}
	for _, pair := range assignment {
		sender, first, _ := dmap.Local(from, locales, pair[0])
		receiver, second, _ := dmap.Local(to, locales, pair[1])
		ends := [2]int{sender, receiver}
		messages[ends] = append(messages[ends], [2]int{first, second})
	}
	var p transfer.Plan
	for s := range locales {
		for r := range locales {
			if l := messages[[2]int{s, r}]; len(l) > 0 {
				p = append(p, transfer.Message{Sender: s, Receiver: r, Strips: strips(l)})
			}
		}
	}
	return p
}

// strips puts elements into strips.
func strips(l [][2]int) []transfer.Strip {
	if len(l) == 0 {
		return nil
	}
	if len(l) == 1 {
		return []transfer.Strip{{From: l[0][0], To: l[0][1], Count: 1}}
	}
	apart := [2]int{l[1][0] - l[0][0], l[1][1] - l[0][1]}
	n := 1
	for n < len(l) && l[n] == [2]int{l[n-1][0] + apart[0], l[n-1][1] + apart[1]} {
		n++
	}
	first := transfer.Strip{From: l[0][0], Stride: apart[0], To: l[0][1], Step: apart[1], Count: n}
	return append([]transfer.Strip{first}, strips(l[n:])...)
}

// same reports whether two plans are equal.
func same(p, q transfer.Plan) bool {
	return slices.EqualFunc(p, q, func(a, b transfer.Message) bool {
		return a.Sender == b.Sender && a.Receiver == b.Receiver && slices.Equal(a.Strips, b.Strips)
	})
}

// lists reports whether two lists of lists are equal.
func lists(a, b [][]int) bool { return slices.EqualFunc(a, b, slices.Equal[[]int]) }

// elements returns different elements of an array.
func elements(d api.Domain, first int) []int {
	var l []int
	for k := range domain.Size(d) {
		l = append(l, first+k)
	}
	return l
}

// scattered returns the parts of elements.
func scattered(d api.Domain, locales int, elements []int) [][]int {
	parts := make([][]int, locales)
	for k, x := range elements {
		l, _ := dmap.OwnerAt(d, locales, k)
		parts[l] = append(parts[l], x)
	}
	return parts
}

// counts returns the sizes of parts.
func counts(d api.Domain, locales int) []int {
	l, _ := dmap.Counts(d, locales)
	return l
}

// shaped reports whether two domains have the same shape.
func shaped(a, b api.Domain) bool {
	return slices.EqualFunc(a.Dims, b.Dims, func(r, q api.Range) bool {
		return (r.High-r.Low)/r.Stride == (q.High-q.Low)/q.Stride && (r == none) == (q == none)
	})
}

// TestMove compares the plans of all pairs, and what they do.
func TestMove(t *testing.T) {
	pairs(func(from, to api.Domain, locales int) {
		both := common(from, to)
		p, e := transfer.Move(from, to, locales)
		if want := planned(both, from, to, locales); !same(p, want) || e != api.OK {
			t.Errorf("Move(%v, %v, %d) = %v, %v, want %v", from, to, locales, p, e, want)
		}
		old, changed := elements(from, 1000), elements(to, 2000)
		parts, e := transfer.Apply(p, scattered(from, locales, old), scattered(to, locales, changed))
		for _, pair := range both {
			changed[pair[1]] = old[pair[0]]
		}
		if !lists(parts, scattered(to, locales, changed)) || e != api.OK {
			t.Errorf("Apply of Move(%v, %v, %d) = %v, %v", from, to, locales, parts, e)
		}
		once(t, p, from, to, locales, len(both))
	})
}

// TestAssign compares the plans of all pairs of the same shape, and what they do, and asks for the error of others.
func TestAssign(t *testing.T) {
	pairs(func(from, to api.Domain, locales int) {
		p, e := transfer.Assign(from, to, locales)
		if !shaped(from, to) {
			if len(p) != 0 || e != api.ErrCount {
				t.Errorf("Assign(%v, %v, %d) = %v, %v", from, to, locales, p, e)
			}
			return
		}
		if want := planned(equals(from), from, to, locales); !same(p, want) || e != api.OK {
			t.Errorf("Assign(%v, %v, %d) = %v, %v, want %v", from, to, locales, p, e, want)
		}
		old := elements(from, 1000)
		there, e := transfer.Apply(p, scattered(from, locales, old), scattered(to, locales, elements(to, 2000)))
		if !lists(there, scattered(to, locales, old)) || e != api.OK {
			t.Errorf("Apply of Assign(%v, %v, %d) = %v, %v", from, to, locales, there, e)
		}
		back, _ := transfer.Assign(to, from, locales)
		again, e := transfer.Apply(back, there, scattered(from, locales, elements(from, 0)))
		if !lists(again, scattered(from, locales, old)) || e != api.OK {
			t.Errorf("Apply of Assign(%v, %v, %d) and back = %v, %v", from, to, locales, again, e)
		}
		once(t, p, from, to, locales, domain.Size(from))
	})
}

// once asks that a plan is right, and carries so many elements in all, each to another place.
func once(t *testing.T, p transfer.Plan, from, to api.Domain, locales, n int) {
	t.Helper()
	if e := transfer.Check(p, counts(from, locales), counts(to, locales)); e != api.OK {
		t.Errorf("Check of a plan of %v, %v and %d = %v", from, to, locales, e)
	}
	seen := map[[2]int]bool{}
	for _, m := range p {
		for _, s := range m.Strips {
			for k := range s.Count {
				seen[[2]int{m.Receiver, s.To + k*s.Step}] = true
				n--
			}
		}
	}
	size := 0
	for _, m := range p {
		for _, s := range m.Strips {
			size += s.Count
		}
	}
	if n != 0 || len(seen) != size {
		t.Errorf("a plan of %v, %v and %d carries %d elements too few, %d to %d places", from, to, locales, n, size, len(seen))
	}
}

// least returns the positions of Least, as the definition says.
func least(from, to api.Domain, locales int) []int {
	var l []int
	for s := range locales {
		for r := range locales {
			for k := range domain.Size(from) {
				sender, _ := dmap.OwnerAt(from, locales, k)
				receiver, _ := dmap.OwnerAt(to, locales, k)
				if s != r && sender == s && receiver == r {
					l = append(l, k)
					break
				}
			}
		}
	}
	return l
}

// TestLeast compares the least numbers of messages with those of the plans.
func TestLeast(t *testing.T) {
	pairs(func(from, to api.Domain, locales int) {
		n, positions, e := transfer.Least(from, to, locales)
		if !shaped(from, to) {
			if n != 0 || len(positions) != 0 || e != api.ErrCount {
				t.Errorf("Least(%v, %v, %d) = %d, %v, %v", from, to, locales, n, positions, e)
			}
			return
		}
		want := least(from, to, locales)
		if n != len(want) || !slices.Equal(positions, want) || e != api.OK {
			t.Errorf("Least(%v, %v, %d) = %d, %v, %v, want %v", from, to, locales, n, positions, e, want)
		}
		p, _ := transfer.Assign(from, to, locales)
		messages, _ := transfer.Cost(p)
		if messages != n {
			t.Errorf("Assign(%v, %v, %d) has %d messages, Least %d", from, to, locales, messages, n)
		}
		// Hashes are those of the indices, which need not be equal in domains of the same shape.
		equal := from.Map == to.Map && (from.Map.Kind != api.Hashed || slices.Equal(from.Dims, to.Dims))
		if n != 0 && (equal || locales == 1) {
			t.Errorf("Least(%v, %v, %d) = %d", from, to, locales, n)
		}
	})
}

// TestScatter compares the parts with those of the owners, and gathers them.
func TestScatter(t *testing.T) {
	pairs(func(d, _ api.Domain, locales int) {
		all := elements(d, 50)
		parts, e := transfer.Scatter(d, locales, all)
		if !lists(parts, scattered(d, locales, all)) || e != api.OK {
			t.Errorf("Scatter(%v, %d) = %v, %v", d, locales, parts, e)
		}
		if l, e := transfer.Gather(d, locales, parts); !slices.Equal(l, all) || e != api.OK {
			t.Errorf("Gather(%v, %d) = %v, %v", d, locales, l, e)
		}
		for _, wrong := range [][]int{append(slices.Clone(all), 1), all[:max(0, len(all)-1)]} {
			if len(wrong) == len(all) {
				continue
			}
			if parts, e := transfer.Scatter(d, locales, wrong); len(parts) != 0 || e != api.ErrCount {
				t.Errorf("Scatter(%v, %d) of %d elements = %v, %v", d, locales, len(wrong), parts, e)
			}
		}
		wrongs := [][][]int{nil, parts[1:], append(slices.Clone(parts), nil)}
		for l, part := range parts {
			more := slices.Clone(parts)
			more[l] = append(slices.Clone(part), 1)
			wrongs = append(wrongs, more)
			if len(part) > 0 {
				fewer := slices.Clone(parts)
				fewer[l] = part[1:]
				wrongs = append(wrongs, fewer)
			}
		}
		for _, wrong := range wrongs {
			if l, e := transfer.Gather(d, locales, wrong); len(l) != 0 || e != api.ErrCount {
				t.Errorf("Gather(%v, %d) of %v = %v, %v", d, locales, wrong, l, e)
			}
		}
	})
}

// TestExamples asks for the examples.
func TestExamples(t *testing.T) {
	ten := row(0, 9, 1)
	block, cyclic := with(api.Map{Kind: api.Block}, ten), with(api.Map{Kind: api.Cyclic}, ten)
	p, e := transfer.Assign(block, cyclic, 2)
	want := transfer.Plan{
		{Sender: 0, Receiver: 0, Strips: []transfer.Strip{{From: 0, Stride: 2, To: 0, Step: 1, Count: 3}}},
		{Sender: 0, Receiver: 1, Strips: []transfer.Strip{{From: 1, Stride: 2, To: 0, Step: 1, Count: 2}}},
		{Sender: 1, Receiver: 0, Strips: []transfer.Strip{{From: 1, Stride: 2, To: 3, Step: 1, Count: 2}}},
		{Sender: 1, Receiver: 1, Strips: []transfer.Strip{{From: 0, Stride: 2, To: 2, Step: 1, Count: 3}}},
	}
	if !same(p, want) || e != api.OK {
		t.Errorf("Assign = %v, %v, want %v", p, e, want)
	}
	if n, l, e := transfer.Least(block, cyclic, 2); n != 2 || !slices.Equal(l, []int{1, 6}) || e != api.OK {
		t.Errorf("Least = %d, %v, %v", n, l, e)
	}
}

// TestCost asks for the cost of any plans.
func TestCost(t *testing.T) {
	far := func(counts ...int) transfer.Message {
		m := transfer.Message{Sender: 1, Receiver: -4}
		for _, n := range counts {
			m.Strips = append(m.Strips, transfer.Strip{Count: n, From: -n})
		}
		return m
	}
	here := far(3)
	here.Receiver = here.Sender
	for _, c := range []struct {
		p                  transfer.Plan
		messages, elements int
	}{
		{nil, 0, 0},
		{transfer.Plan{here, here}, 0, 0},
		{transfer.Plan{far()}, 1, 0},
		{transfer.Plan{far(1, 2, 3), here, far(1, 2, 3)}, 2, 12},
		{transfer.Plan{far(-1, 0, math.MinInt, 5)}, 1, 5},
		{transfer.Plan{far(math.MaxInt - 1), far(1)}, 2, math.MaxInt},
	} {
		if messages, elements := transfer.Cost(c.p); messages != c.messages || elements != c.elements {
			t.Errorf("Cost(%v) = %d, %d, want %d, %d", c.p, messages, elements, c.messages, c.elements)
		}
	}
}

// TestArguments asks that no function changes its arguments, nor what is behind them.
func TestArguments(t *testing.T) {
	dims := []api.Range{row(0, 3, 1), row(0, 2, 1), row(77, 77, 1)}
	from, to := with(api.Map{Kind: api.Block}, dims[:2]...), with(api.Map{Kind: api.Cyclic}, dims[:2]...)
	l := elements(from, 1)
	parts, receivers := scattered(from, 2, l), scattered(to, 2, elements(to, 100))
	p, _ := transfer.Assign(from, to, 2)
	q, _ := transfer.Move(from, to, 2)
	if got, e := transfer.Apply(p, parts, receivers); !lists(got, scattered(to, 2, l)) || e != api.OK {
		t.Errorf("Apply = %v, %v", got, e)
	}
	transfer.Gather(from, 2, parts)
	transfer.Scatter(from, 2, l)
	transfer.Least(from, to, 2)
	transfer.Cost(p)
	transfer.Weigh(p, 1, 2, 3)
	transfer.Check(p, counts(from, 2), counts(to, 2))
	if !lists(parts, scattered(from, 2, elements(from, 1))) || !lists(receivers, scattered(to, 2, elements(to, 100))) || !same(p, q) ||
		!slices.Equal(l, elements(from, 1)) || !slices.Equal(dims, []api.Range{row(0, 3, 1), row(0, 2, 1), row(77, 77, 1)}) {
		t.Errorf("the arguments have become %v, %v, %v, %v, %v", parts, receivers, p, l, dims)
	}
	// The same parts at both ends: what is read was not written by the plan.
	turn := transfer.Plan{{Sender: 0, Receiver: 0, Strips: []transfer.Strip{{From: 0, Stride: 1, To: 4, Step: -1, Count: 5}}}}
	line := [][]int{{1, 2, 3, 4, 5}}
	if got, e := transfer.Apply(turn, line, line); !lists(got, [][]int{{5, 4, 3, 2, 1}}) || e != api.OK || !lists(line, [][]int{{1, 2, 3, 4, 5}}) {
		t.Errorf("Apply of a turn = %v, %v, and leaves %v", got, e, line)
	}
}
