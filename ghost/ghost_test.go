package ghost_test

import (
	"math"
	"slices"
	"testing"

	"raddle/api"
	"raddle/dmap"
	"raddle/domain"
	"raddle/ghost"
)

var none = api.Range{Low: 1, High: 0, Stride: 1}

// row returns a range by its three fields.
func row(low, high, stride int) api.Range {
	return api.Range{Low: low, High: high, Stride: stride}
}

// with returns the domain of ranges with a map.
func with(m api.Map, l ...api.Range) api.Domain { return api.Domain{Dims: l, Map: m} }

// maps returns maps of all kinds.
func maps() []api.Map {
	return []api.Map{{}, {Home: 1}, {Kind: api.Block}, {Kind: api.Cyclic}, {Kind: api.BlockCyclic, Size: 2}, {Kind: api.BlockCyclic, Size: 3}, {Kind: api.Hashed}}
}

// shape is a domain over locales, with widths.
type shape struct {
	d       api.Domain
	locales int
	width   []int
}

// shapes returns shapes of both ranks.
func shapes() []shape {
	var l []shape
	for _, m := range maps() {
		for _, locales := range []int{2, 3, 5, 8} {
			for _, r := range []api.Range{none, row(4, 4, 1), row(0, 5, 1), row(-6, 12, 3), row(1, 23, 2)} {
				for w := range ghost.MaxWidth + 1 {
					l = append(l, shape{with(m, r), locales, []int{w}})
				}
			}
			for _, c := range [][2]api.Range{{row(0, 3, 1), row(5, 9, 1)}, {row(0, 9, 3), row(-2, 4, 2)}, {row(7, 7, 1), row(0, 6, 1)}, {row(0, 6, 1), row(7, 7, 1)}, {none, row(0, 2, 1)}, {row(0, 2, 1), none}} {
				for _, w := range [][]int{{0, 0}, {0, 1}, {1, 0}, {1, 1}, {2, 1}, {1, 3}, {5, 5}} {
					l = append(l, shape{with(m, c[0], c[1]), locales, w})
				}
			}
		}
	}
	for _, m := range maps()[2:] {
		l = append(l, shape{with(m, row(0, 9, 1)), 1, []int{2}}, shape{with(m, row(0, 3, 1), row(0, 3, 1)), 1, []int{1, 1}})
	}
	return l
}

// indices returns the positions, in each range, of the numbers of all indices.
func (s shape) indices() [][2]int {
	size := [2]int{1, 1}
	for i, r := range s.d.Dims {
		size[i] = 0
		for n := r.Low; n <= r.High; n += r.Stride {
			size[i]++
		}
	}
	var l [][2]int
	for i := range size[0] {
		for k := range size[1] {
			l = append(l, [2]int{i, k})
		}
	}
	return l
}

// owner returns the owner of a position.
func (s shape) owner(position int) int {
	l, _ := dmap.OwnerAt(s.d, s.locales, position)
	return l
}

// near reports whether two indices differ by the widths at most.
func (s shape) near(a, b [2]int) bool {
	for i := range a {
		width := 0
		if i < len(s.width) {
			width = s.width[i]
		}
		if a[i]-b[i] > width || b[i]-a[i] > width {
			return false
		}
	}
	return true
}

// halo returns the positions of the ghosts of a locale, as the definition says.
func (s shape) halo(locale int) []int {
	var l []int
	all := s.indices()
	own := make([]bool, len(all))
	for k := range all {
		own[k] = s.owner(k) == locale
	}
	for k, index := range all {
		beside := false
		for other := range all {
			beside = beside || own[other] && s.near(index, all[other])
		}
		if beside && !own[k] {
			l = append(l, k)
		}
	}
	return l
}

// has returns the positions that a locale has.
func (s shape) has(locale int) []int {
	l := s.halo(locale)
	for k := range s.indices() {
		if s.owner(k) == locale {
			l = append(l, k)
		}
	}
	slices.Sort(l)
	return l
}

// elements returns as many different numbers as there are indices.
func (s shape) elements() []int {
	var l []int
	for k := range s.indices() {
		l = append(l, 100+k*k)
	}
	return l
}

// array returns the array of a shape with its elements.
func (s shape) array(t *testing.T) ghost.Array {
	t.Helper()
	a, e := ghost.New(s.d, s.locales, s.width, s.elements())
	if e != api.OK {
		t.Fatalf("New of %v: %v", s, e)
	}
	return a
}

// equal reports whether two arrays are equal in all fields.
func equal(a, b ghost.Array) bool {
	return slices.Equal(a.Domain.Dims, b.Domain.Dims) && a.Domain.Map == b.Domain.Map && a.Locales == b.Locales &&
		slices.Equal(a.Width, b.Width) && slices.EqualFunc(a.Parts, b.Parts, slices.Equal[[]int])
}

// others returns numbers that are none from 0 to n - 1.
func others(n int) []int { return []int{-1, n, math.MinInt, math.MaxInt} }

// TestHalos compares halos and positions with those of all pairs of indices.
func TestHalos(t *testing.T) {
	for _, s := range shapes() {
		for l := range s.locales {
			halo, e := ghost.Halo(s.d, s.locales, s.width, l)
			if !slices.Equal(halo, s.halo(l)) || e != api.OK {
				t.Errorf("Halo(%v, %d) = %v, %v, want %v", s, l, halo, e, s.halo(l))
			}
			all, e := ghost.Positions(s.d, s.locales, s.width, l)
			if !slices.Equal(all, s.has(l)) || e != api.OK {
				t.Errorf("Positions(%v, %d) = %v, %v, want %v", s, l, all, e, s.has(l))
			}
			part, _ := dmap.Part(s.d, s.locales, l)
			if slices.ContainsFunc(halo, func(k int) bool { return slices.Contains(part, k) }) || len(all) != len(halo)+len(part) {
				t.Errorf("%v, %d: the halo %v and the part %v are not %v", s, l, halo, part, all)
			}
		}
		for _, l := range others(s.locales) {
			if halo, e := ghost.Halo(s.d, s.locales, s.width, l); len(halo) != 0 || e != api.ErrRange {
				t.Errorf("Halo(%v, %d) = %v, %v", s, l, halo, e)
			}
			if all, e := ghost.Positions(s.d, s.locales, s.width, l); len(all) != 0 || e != api.ErrRange {
				t.Errorf("Positions(%v, %d) = %v, %v", s, l, all, e)
			}
		}
	}
}

// plan returns the moves that update all ghosts.
func (s shape) plan() []ghost.Move {
	var l []ghost.Move
	for to := range s.locales {
		for from := range s.locales {
			m := ghost.Move{From: from, To: to}
			for _, k := range s.halo(to) {
				if s.owner(k) == from {
					m.Positions = append(m.Positions, k)
				}
			}
			if len(m.Positions) > 0 {
				l = append(l, m)
			}
		}
	}
	return l
}

// same reports whether two lists of moves are equal.
func same(a, b []ghost.Move) bool {
	return slices.EqualFunc(a, b, func(x, y ghost.Move) bool {
		return x.From == y.From && x.To == y.To && slices.Equal(x.Positions, y.Positions)
	})
}

// TestPlan compares the moves with those of the halos.
func TestPlan(t *testing.T) {
	for _, s := range shapes() {
		if l, e := ghost.Plan(s.d, s.locales, s.width); !same(l, s.plan()) || e != api.OK {
			t.Errorf("Plan(%v) = %v, %v, want %v", s, l, e, s.plan())
		}
	}
}

// TestNew asks for all elements of new arrays, and that no ghost is stale.
func TestNew(t *testing.T) {
	for _, s := range shapes() {
		elements := s.elements()
		a, e := ghost.New(s.d, s.locales, s.width, elements)
		want := ghost.Array{Domain: s.d, Locales: s.locales, Width: s.width, Parts: make([][]int, s.locales)}
		for l := range s.locales {
			for _, k := range s.has(l) {
				want.Parts[l] = append(want.Parts[l], elements[k])
			}
		}
		if !equal(a, want) || e != api.OK || ghost.Check(a) != api.OK {
			t.Errorf("New(%v) = %v, %v, want %v", s, a, e, want)
		}
		if l, e := ghost.Gather(a); !slices.Equal(l, elements) || e != api.OK {
			t.Errorf("Gather of New(%v) = %v, %v", s, l, e)
		}
		for l := range s.locales {
			if stale, e := ghost.Stale(a, l); len(stale) != 0 || e != api.OK {
				t.Errorf("Stale of New(%v) = %v, %v", s, stale, e)
			}
		}
		for _, wrong := range [][]int{append(slices.Clone(elements), 1), elements[:max(len(elements)-1, 0)]} {
			if len(wrong) == len(elements) {
				continue
			}
			if a, e := ghost.New(s.d, s.locales, s.width, wrong); !equal(a, ghost.Array{}) || e != api.ErrCount {
				t.Errorf("New(%v) of %d elements = %v, %v", s, len(wrong), a, e)
			}
		}
	}
}

// TestRead asks each locale for each position.
func TestRead(t *testing.T) {
	for _, s := range shapes() {
		a, elements := s.array(t), s.elements()
		for l := range s.locales {
			has := s.has(l)
			for k := -1; k <= len(elements); k++ {
				want, wantE := 0, ghost.ErrOwner
				if slices.Contains(has, k) {
					want, wantE = elements[k], api.OK
				}
				if n, e := ghost.Read(a, l, k); n != want || e != wantE {
					t.Errorf("Read(%v, %d, %d) = %d, %v, want %d, %v", s, l, k, n, e, want, wantE)
				}
			}
			for _, k := range others(len(elements)) {
				if n, e := ghost.Read(a, l, k); n != 0 || e != ghost.ErrOwner {
					t.Errorf("Read(%v, %d, %d) = %d, %v", s, l, k, n, e)
				}
			}
		}
		for _, l := range others(s.locales) {
			if n, e := ghost.Read(a, l, 0); n != 0 || e != api.ErrRange {
				t.Errorf("Read(%v, %d, 0) = %d, %v", s, l, n, e)
			}
			if stale, e := ghost.Stale(a, l); len(stale) != 0 || e != api.ErrRange {
				t.Errorf("Stale(%v, %d) = %v, %v", s, l, stale, e)
			}
		}
	}
}

// TestWrite writes at positions: the ghosts there are stale, and no others, until the array is updated.
func TestWrite(t *testing.T) {
	for i, s := range shapes() {
		old := s.array(t)
		for k := range s.elements() {
			// Not each position of each shape, but each position of some.
			if k%5 != i%5 {
				continue
			}
			a, e := ghost.Write(old, k, -5)
			if e != api.OK || !equal(old, s.array(t)) {
				t.Fatalf("Write(%v, %d) = %v, and leaves %v", s, k, e, old)
			}
			written(t, s, a, k)
			if b, e := ghost.Write(a, k, s.elements()[k]); !equal(b, old) || e != api.OK {
				t.Errorf("Write of the old value to %v at %d = %v, %v", s, k, b, e)
			}
			updated(t, s, a)
		}
		for _, k := range others(len(s.elements())) {
			if a, e := ghost.Write(old, k, 1); !equal(a, ghost.Array{}) || e != api.ErrRange {
				t.Errorf("Write(%v, %d) = %v, %v", s, k, a, e)
			}
		}
	}
}

// written asks for an array behind a Write of -5.
func written(t *testing.T, s shape, a ghost.Array, k int) {
	t.Helper()
	want := s.array(t)
	for l := range s.locales {
		var ghosts []int
		if slices.Contains(s.halo(l), k) {
			ghosts = []int{k}
		}
		if stale, e := ghost.Stale(a, l); !slices.Equal(stale, ghosts) || e != api.OK {
			t.Errorf("Stale behind Write(%v, %d) at %d = %v, %v, want %v", s, k, l, stale, e, ghosts)
		}
		if s.owner(k) == l {
			want.Parts[l][slices.Index(s.has(l), k)] = -5
		}
	}
	if !equal(a, want) {
		t.Errorf("Write(%v, %d) = %v, want %v", s, k, a, want)
	}
}

// updated asks that an array behind the moves of Plan has the same elements, and no stale ghosts.
func updated(t *testing.T, s shape, a ghost.Array) {
	t.Helper()
	elements, _ := ghost.Gather(a)
	old := a
	old.Parts = nil
	for _, part := range a.Parts {
		old.Parts = append(old.Parts, slices.Clone(part))
	}
	b, e := ghost.Update(a, s.plan())
	want, _ := ghost.New(s.d, s.locales, s.width, elements)
	if !equal(b, want) || e != api.OK {
		t.Errorf("Update(%v) = %v, %v, want %v", s, b, e, want)
	}
	if !equal(a, old) {
		t.Errorf("Update changes %v to %v", old, a)
	}
}

// TestGather asks for the elements of the owners, whatever the ghosts are.
func TestGather(t *testing.T) {
	for _, s := range shapes() {
		a := s.array(t)
		for l, part := range a.Parts {
			for i, k := range s.has(l) {
				if s.owner(k) != l {
					part[i] = -1 - k
				}
			}
		}
		if l, e := ghost.Gather(a); !slices.Equal(l, s.elements()) || e != api.OK {
			t.Errorf("Gather(%v) = %v, %v", s, l, e)
		}
		for l := range s.locales {
			if stale, e := ghost.Stale(a, l); !slices.Equal(stale, s.halo(l)) || e != api.OK {
				t.Errorf("Stale(%v, %d) = %v, %v, want %v", s, l, stale, e, s.halo(l))
			}
		}
		updated(t, s, a)
	}
}

// TestExamples asks for the examples.
func TestExamples(t *testing.T) {
	d := with(api.Map{Kind: api.Block}, row(0, 5, 1))
	for l, want := range [][]int{{0, 1, 2, 3}, {2, 3, 4, 5}} {
		if all, e := ghost.Positions(d, 2, []int{1}, l); !slices.Equal(all, want) || e != api.OK {
			t.Errorf("Positions at %d = %v, %v, want %v", l, all, e, want)
		}
	}
	want := []ghost.Move{{From: 1, To: 0, Positions: []int{3}}, {From: 0, To: 1, Positions: []int{2}}}
	if l, e := ghost.Plan(d, 2, []int{1}); !same(l, want) || e != api.OK {
		t.Errorf("Plan = %v, %v, want %v", l, e, want)
	}
	a, _ := ghost.New(d, 2, []int{1}, []int{1, 2, 3, 4, 5, 6})
	a, e := ghost.Smooth(a, []int{1, 0, 1})
	if l, _ := ghost.Gather(a); !slices.Equal(l, []int{2, 4, 6, 8, 10, 5}) || e != api.OK {
		t.Errorf("Smooth = %v, %v", l, e)
	}
}

// TestGreatest asks for the limit of indices, and for the greatest widths.
func TestGreatest(t *testing.T) {
	for _, m := range maps() {
		d := with(m, row(1, 40, 1), row(0, 98, 2))
		s := shape{d, 8, []int{5, 5}}
		elements := make([]int, domain.Size(d))
		for k := range elements {
			elements[k] = k % 7
		}
		a, e := ghost.New(d, 8, s.width, elements)
		if e != api.OK {
			t.Fatalf("New(%v) = %v", d, e)
		}
		moves, _ := ghost.Plan(d, 8, s.width)
		if b, e := ghost.Update(a, moves); !equal(a, b) || e != api.OK {
			t.Errorf("Update(%v) = %v", d, e)
		}
		if l, e := ghost.Gather(a); !slices.Equal(l, elements) || e != api.OK {
			t.Errorf("Gather(%v) = %v", d, e)
		}
	}
}
