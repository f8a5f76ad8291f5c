package ghost_test

import (
	"math"
	"math/big"
	"slices"
	"testing"

	"raddle/api"
	"raddle/ghost"
)

// offsets returns the offsets of a shape, in their order.
func (s shape) offsets() [][2]int {
	width := [2]int{}
	copy(width[:], s.width)
	var l [][2]int
	for i := -width[0]; i <= width[0]; i++ {
		for k := -width[1]; k <= width[1]; k++ {
			l = append(l, [2]int{i, k})
		}
	}
	return l
}

// smoothed returns the elements behind smoothing, by large numbers, and whether they are ints, as is all on the way to them.
func (s shape) smoothed(elements, weights []int) ([]int, bool) {
	var l []int
	all := s.indices()
	for _, index := range all {
		sum := big.NewInt(0)
		for i, offset := range s.offsets() {
			k := slices.Index(all, [2]int{index[0] + offset[0], index[1] + offset[1]})
			if k < 0 {
				continue
			}
			product := new(big.Int).Mul(big.NewInt(int64(weights[i])), big.NewInt(int64(elements[k])))
			sum.Add(sum, product)
			if !product.IsInt64() || !sum.IsInt64() {
				return nil, false
			}
		}
		l = append(l, int(sum.Int64()))
	}
	return l, true
}

// weights returns a weight for each offset.
func (s shape) weights() []int {
	var l []int
	for i := range s.offsets() {
		l = append(l, (i*i+3)%11-4)
	}
	return l
}

// TestSmooth compares the elements with those that one locale has, and asks that ghosts stay.
func TestSmooth(t *testing.T) {
	for _, s := range shapes() {
		a, weights := s.array(t), s.weights()
		want, _ := s.smoothed(s.elements(), weights)
		b, e := ghost.Smooth(a, weights)
		if got, _ := ghost.Gather(b); !slices.Equal(got, want) || e != api.OK {
			t.Errorf("Smooth(%v) = %v, %v, want %v", s, got, e, want)
		}
		for l := range s.locales {
			for _, k := range s.halo(l) {
				if n, e := ghost.Read(b, l, k); n != s.elements()[k] || e != api.OK {
					t.Errorf("Smooth(%v): the ghost %d at %d = %d, %v", s, k, l, n, e)
				}
			}
		}
		if !equal(a, s.array(t)) {
			t.Errorf("Smooth(%v) changes the array to %v", s, a)
		}
		one, _ := ghost.New(with(api.Map{}, s.d.Dims...), 1, s.width, s.elements())
		one, _ = ghost.Smooth(one, weights)
		if got, _ := ghost.Gather(one); !slices.Equal(got, want) {
			t.Errorf("Smooth(%v) on one locale = %v, want %v", s, got, want)
		}
	}
}

// TestWeights asks for as many weights as offsets, ahead of stale ghosts and overflows.
func TestWeights(t *testing.T) {
	for _, s := range shapes() {
		a := s.array(t)
		for k := range s.elements() {
			a, _ = ghost.Write(a, k, math.MinInt)
		}
		weights := slices.Repeat([]int{math.MaxInt}, len(s.weights()))
		for _, wrong := range [][]int{nil, weights[1:], append(slices.Clone(weights), 1)} {
			if len(wrong) == len(weights) {
				continue
			}
			if b, e := ghost.Smooth(a, wrong); !equal(b, ghost.Array{}) || e != api.ErrCount {
				t.Errorf("Smooth(%v) with %d weights = %v, %v", s, len(wrong), b, e)
			}
		}
		stale := len(s.plan()) > 0
		if b, e := ghost.Smooth(a, weights); stale && (!equal(b, ghost.Array{}) || e != ghost.ErrStale) {
			t.Errorf("Smooth(%v) with stale ghosts = %v, %v", s, b, e)
		}
	}
}

// TestStaleSmooth writes at positions: smoothing asks for all ghosts there.
func TestStaleSmooth(t *testing.T) {
	for i, s := range shapes() {
		for k := range s.elements() {
			if k%5 != i%5 {
				continue
			}
			a, _ := ghost.Write(s.array(t), k, 5)
			want := api.OK
			for l := range s.locales {
				if slices.Contains(s.halo(l), k) {
					want = ghost.ErrStale
				}
			}
			b, e := ghost.Smooth(a, s.weights())
			if e != want || (e != api.OK && !equal(b, ghost.Array{})) {
				t.Errorf("Smooth(%v) behind Write at %d = %v, %v, want %v", s, k, b, e, want)
			}
		}
	}
}

// TestOverflow compares products and sums at the limits of ints with large numbers.
func TestOverflow(t *testing.T) {
	edges := []int{math.MinInt, math.MinInt + 1, math.MinInt / 2, -3037000500, -1, 0, 1, 2, 3037000499, math.MaxInt/2 + 1, math.MaxInt}
	for _, locales := range []int{1, 2} {
		s := shape{with(api.Map{Kind: api.Cyclic}, row(0, 1, 1)), locales, []int{1}}
		for _, x := range edges {
			for _, y := range edges {
				for _, u := range edges {
					for _, v := range edges {
						summed(t, s, []int{x, y}, []int{3, u, v})
					}
				}
			}
		}
	}
	three := shape{with(api.Map{Kind: api.Block}, row(0, 2, 1)), 3, []int{1}}
	// The sum is an int, but not on the way to it, or the other way round.
	summed(t, three, []int{math.MaxInt, 1, -1}, []int{1, 1, 1})
	summed(t, three, []int{math.MaxInt, -1, 1}, []int{1, 1, 1})
	summed(t, three, []int{math.MinInt, -1, 1}, []int{1, 1, 1})
	summed(t, three, []int{-1, 1, math.MinInt}, []int{1, 1, 1})
}

// summed compares smoothing of a small array.
func summed(t *testing.T, s shape, elements, weights []int) {
	t.Helper()
	a, e := ghost.New(s.d, s.locales, s.width, elements)
	if e != api.OK {
		t.Fatalf("New = %v", e)
	}
	want, ok := s.smoothed(elements, weights)
	wantE := api.OK
	if !ok {
		wantE = api.ErrOverflow
	}
	b, e := ghost.Smooth(a, weights)
	if e != wantE || !ok && !equal(b, ghost.Array{}) {
		t.Errorf("Smooth of %v by %v = %v, %v, want %v", elements, weights, b, e, wantE)
	}
	if got, _ := ghost.Gather(b); ok && !slices.Equal(got, want) {
		t.Errorf("Smooth of %v by %v = %v, want %v", elements, weights, got, want)
	}
}
