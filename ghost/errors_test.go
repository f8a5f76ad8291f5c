package ghost_test

import (
	"math"
	"slices"
	"testing"

	"raddle/api"
	"raddle/dmap"
	"raddle/ghost"
)

// wrongShapes returns shapes with errors, of which some have several.
func wrongShapes() map[api.Errno][]shape {
	six, block := row(0, 5, 1), api.Map{Kind: api.Block}
	wide := with(block, row(-1000000, 1000000, 1), row(-1000000, 1000000, 1))
	return map[api.Errno][]shape{
		api.ErrRange: {
			{with(block, six), 0, []int{1}}, {with(block, six), 9, []int{1}}, {with(block, six), -1, nil}, {with(block), math.MaxInt, nil},
			{with(block, row(0, 1000001, 1)), 1, nil}, {with(block, six), 2, []int{-1}}, {with(block, six), 2, []int{6}},
			{with(block, six, six), 2, []int{1, 6}}, {with(block, six, six), 2, []int{math.MinInt, 0}}, {with(block, six, six), 2, []int{0, math.MaxInt}},
			{with(block, none), 2, []int{6}}, {wide, 0, nil},
		},
		api.ErrForm:  {{with(block, row(0, 5, 2)), 2, []int{1}}, {with(block, row(0, 5, -1)), 2, nil}, {with(api.Map{Kind: 9}, six), 2, []int{1}}},
		dmap.ErrMap:  {{with(api.Map{Home: 2}, six), 2, []int{1}}, {with(api.Map{Home: 3}, row(0, 100000, 1)), 2, nil}},
		api.ErrLarge: {{with(block, row(0, 2000, 1)), 2, []int{1}}, {wide, 8, nil}, {with(block, row(0, 2, 1), row(0, 666, 1)), 1, []int{9, 9}}},
		api.ErrCount: {
			{with(block), 2, []int{1}}, {with(block, six, six, six), 2, []int{1, 1, 1}}, {with(block, six), 2, nil}, {with(block, six), 2, []int{1, 1}},
			{with(block, six, six), 2, []int{1}}, {with(block, six, six), 2, []int{-1, 1, 1}}, {with(block, six), 2, []int{6, 6}},
		},
	}
}

// TestWrongShapes hands shapes with errors to every function, with right and with wrong further arguments.
func TestWrongShapes(t *testing.T) {
	for want, l := range wrongShapes() {
		for _, s := range l {
			for _, n := range []int{0, -1, 100} {
				if l, e := ghost.Halo(s.d, s.locales, s.width, n); len(l) != 0 || e != want {
					t.Errorf("Halo(%v, %d) = %v, %v, want %v", s, n, l, e, want)
				}
				if l, e := ghost.Positions(s.d, s.locales, s.width, n); len(l) != 0 || e != want {
					t.Errorf("Positions(%v, %d) = %v, %v, want %v", s, n, l, e, want)
				}
			}
			if l, e := ghost.Plan(s.d, s.locales, s.width); len(l) != 0 || e != want {
				t.Errorf("Plan(%v) = %v, %v, want %v", s, l, e, want)
			}
			for _, elements := range [][]int{nil, make([]int, 6), make([]int, 36)} {
				if a, e := ghost.New(s.d, s.locales, s.width, elements); !equal(a, ghost.Array{}) || e != want {
					t.Errorf("New(%v) = %v, %v, want %v", s, a, e, want)
				}
			}
			for _, parts := range [][][]int{nil, make([][]int, 2), {make([]int, 6)}} {
				ofWrong(t, ghost.Array{Domain: s.d, Locales: s.locales, Width: s.width, Parts: parts}, want)
			}
		}
	}
}

// ofWrong asks all functions for the error of an array, with right and with wrong further arguments.
func ofWrong(t *testing.T, a ghost.Array, want api.Errno) {
	t.Helper()
	if e := ghost.Check(a); e != want {
		t.Errorf("Check(%v) = %v, want %v", a, e, want)
	}
	for _, n := range []int{0, -1, 100} {
		if k, e := ghost.Read(a, n, n); k != 0 || e != want {
			t.Errorf("Read(%v, %d, %d) = %d, %v, want %v", a, n, n, k, e, want)
		}
		if b, e := ghost.Write(a, n, 1); !equal(b, ghost.Array{}) || e != want {
			t.Errorf("Write(%v, %d, 1) = %v, %v, want %v", a, n, b, e, want)
		}
		if l, e := ghost.Stale(a, n); len(l) != 0 || e != want {
			t.Errorf("Stale(%v, %d) = %v, %v, want %v", a, n, l, e, want)
		}
		if b, e := ghost.Update(a, []ghost.Move{{From: n, To: 1}}); !equal(b, ghost.Array{}) || e != want {
			t.Errorf("Update(%v) = %v, %v, want %v", a, b, e, want)
		}
		if b, e := ghost.Smooth(a, make([]int, max(n, 0))); !equal(b, ghost.Array{}) || e != want {
			t.Errorf("Smooth(%v) = %v, %v, want %v", a, b, e, want)
		}
	}
	if l, e := ghost.Gather(a); len(l) != 0 || e != want {
		t.Errorf("Gather(%v) = %v, %v, want %v", a, l, e, want)
	}
}

// TestWrongParts hands arrays to every function whose parts have not as many elements as they should.
func TestWrongParts(t *testing.T) {
	for _, s := range shapes() {
		if s.locales > 3 || len(s.elements()) > 12 {
			continue
		}
		a := s.array(t)
		parts := a.Parts
		for l, part := range parts {
			a.Parts = slices.Clone(parts)
			a.Parts[l] = append(slices.Clone(part), 5)
			ofWrong(t, a, ghost.ErrGhost)
			if len(part) > 0 {
				a.Parts[l] = part[1:]
				ofWrong(t, a, ghost.ErrGhost)
			}
		}
		a.Parts = append(slices.Clone(parts), nil)
		ofWrong(t, a, ghost.ErrGhost)
		a.Parts = parts[1:]
		ofWrong(t, a, ghost.ErrGhost)
		a.Parts = nil
		ofWrong(t, a, ghost.ErrGhost)
	}
}

// TestUpdate asks for moves one by one, and for the errors of moves in their order.
func TestUpdate(t *testing.T) {
	for _, s := range shapes() {
		if s.locales > 2 || len(s.elements()) > 12 || len(s.elements()) < 6 {
			continue
		}
		a := s.array(t)
		for l, part := range a.Parts {
			for i := range part {
				part[i] += 1000 * (l + 1)
			}
		}
		for from := -1; from <= s.locales; from++ {
			for to := -1; to <= s.locales; to++ {
				for k := -1; k <= len(s.elements()); k++ {
					moved(t, s, a, ghost.Move{From: from, To: to, Positions: []int{k}})
				}
			}
		}
		if b, e := ghost.Update(a, nil); !equal(a, b) || e != api.OK {
			t.Errorf("Update(%v, nil) = %v, %v", s, b, e)
		}
		last := s.locales - 1
		if b, e := ghost.Update(a, []ghost.Move{{From: last, To: last}, {From: last, To: 0}}); !equal(a, b) || e != api.OK {
			t.Errorf("Update(%v) by moves of nothing = %v, %v", s, b, e)
		}
	}
}

// moved asks for a single move of one position.
func moved(t *testing.T, s shape, a ghost.Array, m ghost.Move) {
	t.Helper()
	k, want, wantE := m.Positions[0], a, api.OK
	switch {
	case m.From < 0 || m.From >= s.locales || m.To < 0 || m.To >= s.locales:
		want, wantE = ghost.Array{}, api.ErrRange
	case !slices.Contains(s.halo(m.To), k) || s.owner(k) != m.From:
		want, wantE = ghost.Array{}, ghost.ErrOwner
	default:
		want.Parts = slices.Clone(a.Parts)
		want.Parts[m.To] = slices.Clone(a.Parts[m.To])
		want.Parts[m.To][slices.Index(s.has(m.To), k)] = a.Parts[m.From][slices.Index(s.has(m.From), k)]
	}
	if b, e := ghost.Update(a, []ghost.Move{m}); !equal(b, want) || e != wantE {
		t.Errorf("Update(%v, %v) = %v, %v, want %v, %v", s, m, b, e, want, wantE)
	}
}

// TestMoveErrors asks that the errors of one move come ahead of those of the next one, and that of its locales ahead of those of its positions.
func TestMoveErrors(t *testing.T) {
	s := shape{with(api.Map{Kind: api.Block}, row(0, 5, 1)), 2, []int{1}}
	a := s.array(t)
	right := ghost.Move{From: 1, To: 0, Positions: []int{3}}
	for _, c := range []struct {
		l    []ghost.Move
		want api.Errno
	}{
		{[]ghost.Move{right, right}, api.OK},
		{[]ghost.Move{{From: 1, To: 0, Positions: []int{3, 3, 3}}}, api.OK},
		{[]ghost.Move{{From: 1, To: 0, Positions: []int{3, 4}}}, ghost.ErrOwner},
		{[]ghost.Move{{From: 1, To: 0, Positions: []int{2}}}, ghost.ErrOwner},
		{[]ghost.Move{{From: 0, To: 0, Positions: []int{3}}}, ghost.ErrOwner},
		{[]ghost.Move{{From: 1, To: 1, Positions: []int{3}}}, ghost.ErrOwner},
		{[]ghost.Move{{From: 1, To: 0, Positions: []int{math.MinInt}}}, ghost.ErrOwner},
		{[]ghost.Move{{From: 1, To: 0, Positions: []int{math.MaxInt}}}, ghost.ErrOwner},
		{[]ghost.Move{{From: 2, To: 0, Positions: []int{99}}}, api.ErrRange},
		{[]ghost.Move{{From: 0, To: -1, Positions: []int{99}}}, api.ErrRange},
		{[]ghost.Move{right, {From: 1, To: 0, Positions: []int{4}}, {From: 2}}, ghost.ErrOwner},
		{[]ghost.Move{right, {From: 2}, {From: 1, To: 0, Positions: []int{4}}}, api.ErrRange},
	} {
		b, e := ghost.Update(a, c.l)
		if e != c.want || e != api.OK && !equal(b, ghost.Array{}) || e == api.OK && !equal(b, a) {
			t.Errorf("Update(%v) = %v, %v, want %v", c.l, b, e, c.want)
		}
	}
}

// TestArguments asks that no function changes its arguments, nor what is behind them.
func TestArguments(t *testing.T) {
	dims := []api.Range{row(0, 3, 1), row(0, 2, 1), row(77, 77, 1)}
	width, elements := []int{1, 1, 77}, []int{1, 2, 3, 4, 5, 6, 7, 8, 9, 10, 11, 12, 77}
	weights, positions := []int{1, 2, 3, 4, 5, 6, 7, 8, 9, 77}, []int{6, 77}
	d := with(api.Map{Kind: api.Block}, dims[:2]...)
	a, e := ghost.New(d, 2, width[:2], elements[:12])
	if e != api.OK {
		t.Fatalf("New = %v", e)
	}
	for l, part := range a.Parts {
		a.Parts[l] = append(part, 77)[:len(part)]
	}
	old := a
	old.Parts = slices.Clone(a.Parts)
	for l, part := range a.Parts {
		old.Parts[l] = slices.Clone(part)
	}
	ghost.Halo(d, 2, width[:2], 0)
	ghost.Positions(d, 2, width[:2], 1)
	ghost.Plan(d, 2, width[:2])
	ghost.Read(a, 0, 1)
	ghost.Stale(a, 0)
	ghost.Gather(a)
	if _, e := ghost.Smooth(a, weights[:9]); e != api.OK {
		t.Errorf("Smooth = %v", e)
	}
	b, e := ghost.Write(a, 6, 99)
	if e != api.OK {
		t.Errorf("Write = %v", e)
	}
	if _, e := ghost.Update(b, []ghost.Move{{From: 1, To: 0, Positions: positions[:1]}}); e != api.OK {
		t.Errorf("Update = %v", e)
	}
	if !equal(a, old) || !slices.Equal(width, []int{1, 1, 77}) || elements[12] != 77 || elements[6] != 7 || weights[9] != 77 || weights[0] != 1 || !slices.Equal(positions, []int{6, 77}) || dims[2] != row(77, 77, 1) {
		t.Errorf("the arguments have become %v, %v, %v, %v, %v, %v", a, width, elements, weights, positions, dims)
	}
	for l, part := range a.Parts {
		if part[:len(part)+1][len(part)] != 77 {
			t.Errorf("what is behind the part %d has become %v", l, part[:len(part)+1])
		}
	}
}
