package maplaw_test

import (
	"math"
	"math/rand"
	"slices"
	"testing"

	"raddle/api"
	"raddle/dmap"
	"raddle/maplaw"
)

// breach returns the breach of a scheme for one n and p, as its definition says, and false, or true.
func breach(s maplaw.Scheme, n, p int) (maplaw.Breach, bool) {
	at := func(law, position, locale int) (maplaw.Breach, bool) {
		return maplaw.Breach{Law: law, N: n, P: p, Position: position, Locale: locale}, false
	}
	var counts []int
	for l := range p {
		c, ok := value(s.Count, [5]int{n, p, 0, l, 0})
		if !ok {
			return at(maplaw.Faultless, -1, l)
		}
		if c < 0 {
			return at(maplaw.CountSum, -1, l)
		}
		counts = append(counts, c)
	}
	sum := 0.0
	for _, c := range counts {
		sum += float64(c)
	}
	if sum != float64(n) {
		return at(maplaw.CountSum, -1, -1)
	}
	for i := range n {
		owner, ok := value(s.Owner, [5]int{n, p, i, 0, 0})
		if !ok {
			return at(maplaw.Faultless, i, -1)
		}
		if owner < 0 || owner > p-1 {
			return at(maplaw.OwnerRange, i, -1)
		}
		local, ok := value(s.Local, [5]int{n, p, i, 0, 0})
		if !ok {
			return at(maplaw.Faultless, i, -1)
		}
		if local < 0 || local > counts[owner]-1 {
			return at(maplaw.LocalRange, i, owner)
		}
		global, ok := value(s.Global, [5]int{n, p, 0, owner, local})
		if !ok {
			return at(maplaw.Faultless, i, owner)
		}
		if global != i {
			return at(maplaw.Inverse, i, owner)
		}
	}
	return maplaw.Breach{}, true
}

// cyclic returns the scheme of Cyclic, with formulas of its own.
func cyclic() maplaw.Scheme {
	n, p, i, l, k := name("n"), name("p"), name("i"), name("l"), name("k")
	return scheme([4]api.Node{
		binary(i, "%", p),
		binary(i, "/", p),
		binary(binary(k, "*", p), "+", l),
		binary(binary(n, "/", p), "+", binary(l, "<", binary(n, "%", p))),
	})
}

// changed returns the scheme of Cyclic with another formula.
func changed(at int, f api.Node) maplaw.Scheme {
	l := formulas(cyclic())
	l[at] = f
	return scheme([4]api.Node(l))
}

// odd returns a formula that has another value than f for one value of a name.
func odd(f api.Node, letter string, n int, other api.Node) api.Node {
	return cond(binary(name(letter), "==", num(n)), other, f)
}

// schemes returns schemes that break each law in many ways, and some that break none.
func schemes() []maplaw.Scheme {
	l := []maplaw.Scheme{cyclic(), changed(3, binary(name("n"), "/", name("p")))}
	fault, values := binary(num(1), "%", num(0)), []int{-1, 0, 1, 2, 3, 4, 7, math.MaxInt, math.MinInt}
	for at, letters := range []string{"npi", "npi", "nplk", "npl"} {
		whole := formulas(cyclic())[at]
		for _, letter := range letters {
			for n := range 5 {
				l = append(l, changed(at, odd(whole, string(letter), n, fault)))
				for _, v := range values {
					l = append(l, changed(at, odd(whole, string(letter), n, num(v))))
				}
			}
		}
		for _, v := range values {
			l = append(l, changed(at, num(v)))
		}
	}
	c := chance{rand.New(rand.NewSource(66))}
	for range 300 {
		l = append(l, scheme([4]api.Node{c.formula(2, "npi"), c.formula(2, "npi"), c.formula(2, "nplk"), c.formula(2, "npl")}))
	}
	for range 300 {
		f := c.formula(1, "npi")
		l = append(l, changed(0, binary(f, "%", name("p"))), changed(1, f), changed(2, c.formula(2, "nplk")), changed(3, c.formula(1, "npl")))
	}
	return l
}

// TestHolds compares the breaches of many schemes with those of the definition.
func TestHolds(t *testing.T) {
	laws := map[int]int{}
	for _, s := range schemes() {
		for n := range 6 {
			for p := 1; p <= 4; p++ {
				want, wantOk := breach(s, n, p)
				laws[want.Law]++
				if b, ok, e := maplaw.Holds(s, n, p); b != want || ok != wantOk || e != api.OK {
					t.Errorf("Holds(%s, %d, %d) = %v, %v, %v, want %v", text(s), n, p, b, ok, e, want)
				}
			}
		}
	}
	for law := range maplaw.Inverse + 1 {
		if laws[law] < 100 {
			t.Errorf("the law %d is the breach of %d cases only", law, laws[law])
		}
	}
}

// text writes a scheme.
func text(s maplaw.Scheme) string {
	out := ""
	for _, f := range formulas(s) {
		out += show(f) + "; "
	}
	return out
}

// TestFirst compares the first breaches with those of all n and p.
func TestFirst(t *testing.T) {
	for _, s := range schemes() {
		for _, c := range [][2]int{{0, 1}, {5, 4}, {3, 1}, {0, 4}} {
			b, ok, e := maplaw.First(s, c[0], c[1])
			want, wantOk := first(s, c[0], c[1])
			if b != want || ok != wantOk || e != api.OK {
				t.Errorf("First(%s, %v) = %v, %v, %v, want %v", text(s), c, b, ok, e, want)
			}
		}
	}
}

// first returns the first breach up to a greatest n and p.
func first(s maplaw.Scheme, n, p int) (maplaw.Breach, bool) {
	for q := 1; q <= p; q++ {
		for m := 0; m <= n; m++ {
			if b, ok := breach(s, m, q); !ok {
				return b, false
			}
		}
	}
	return maplaw.Breach{}, true
}

// TestSums asks for counts that are too large together, and for faults behind them.
func TestSums(t *testing.T) {
	half := num(math.MaxInt/2 + 1)
	behind := cond(binary(name("l"), "==", num(2)), binary(num(0), "/", num(0)), num(math.MaxInt))
	below := cond(binary(name("l"), "==", num(2)), num(-1), num(math.MaxInt))
	for _, c := range []struct {
		count api.Node
		want  maplaw.Breach
	}{
		{num(math.MaxInt), maplaw.Breach{Law: maplaw.CountSum, N: 4, P: 4, Position: -1, Locale: -1}},
		{half, maplaw.Breach{Law: maplaw.CountSum, N: 4, P: 4, Position: -1, Locale: -1}},
		{num(0), maplaw.Breach{Law: maplaw.CountSum, N: 4, P: 4, Position: -1, Locale: -1}},
		{num(2), maplaw.Breach{Law: maplaw.CountSum, N: 4, P: 4, Position: -1, Locale: -1}},
		{num(-1), maplaw.Breach{Law: maplaw.CountSum, N: 4, P: 4, Position: -1, Locale: 0}},
		{below, maplaw.Breach{Law: maplaw.CountSum, N: 4, P: 4, Position: -1, Locale: 2}},
		{behind, maplaw.Breach{Law: maplaw.Faultless, N: 4, P: 4, Position: -1, Locale: 2}},
	} {
		if b, ok, e := maplaw.Holds(changed(3, c.count), 4, 4); b != c.want || ok || e != api.OK {
			t.Errorf("Holds with the Count %s = %v, %v, %v, want %v", show(c.count), b, ok, e, c.want)
		}
	}
	// Four times 2^62 and n are n again as 64 bits.
	wrap := binary(num(1<<62), "+", binary(name("l"), "==", num(0)))
	want := maplaw.Breach{Law: maplaw.CountSum, N: 1, P: 4, Position: -1, Locale: -1}
	if b, ok, e := maplaw.Holds(changed(3, wrap), 1, 4); b != want || ok || e != api.OK {
		t.Errorf("Holds with counts that are 1 together in 64 bits = %v, %v, %v", b, ok, e)
	}
}

// TestParts compares the parts of schemes with their owners.
func TestParts(t *testing.T) {
	for _, s := range schemes() {
		for n := range 6 {
			for p := 1; p <= 4; p++ {
				parts, e := maplaw.Parts(s, n, p)
				if _, ok := breach(s, n, p); !ok {
					if len(parts) != 0 || e != maplaw.ErrBreach {
						t.Errorf("Parts(%s, %d, %d) = %v, %v", text(s), n, p, parts, e)
					}
					continue
				}
				owned(t, s, n, p, parts)
				if len(parts) != p || e != api.OK {
					t.Errorf("Parts(%s, %d, %d) = %v, %v", text(s), n, p, parts, e)
				}
			}
		}
	}
}

// owned asks that parts have each position once, at its owner, with its local number.
func owned(t *testing.T, s maplaw.Scheme, n, p int, parts [][]int) {
	t.Helper()
	seen := map[int]bool{}
	for l, part := range parts {
		for k, i := range part {
			owner, _ := value(s.Owner, [5]int{n, p, i, 0, 0})
			local, _ := value(s.Local, [5]int{n, p, i, 0, 0})
			if owner != l || local != k || seen[i] || i < 0 || i >= n {
				t.Errorf("Parts(%s, %d, %d) = %v", text(s), n, p, parts)
			}
			seen[i] = true
		}
	}
	if len(seen) != n {
		t.Errorf("Parts(%s, %d, %d) = %v, which are %d", text(s), n, p, parts, len(seen))
	}
}

// TestRanges asks for the limits of n and p, behind the errors of schemes.
func TestRanges(t *testing.T) {
	wrong := scheme([4]api.Node{num(0), num(0), num(0), {}})
	for _, c := range []struct {
		n, p       int
		one, first api.Errno
	}{
		{0, 1, api.OK, api.OK}, {60, 16, api.OK, api.OK}, {61, 16, api.OK, api.ErrRange}, {60, 17, api.OK, api.ErrRange}, {1000, 64, api.OK, api.ErrRange},
		{1001, 64, api.ErrRange, api.ErrRange}, {1000, 65, api.ErrRange, api.ErrRange}, {-1, 1, api.ErrRange, api.ErrRange}, {5, 0, api.ErrRange, api.ErrRange}, {5, -1, api.ErrRange, api.ErrRange},
		{math.MaxInt, 2, api.ErrRange, api.ErrRange}, {math.MinInt, 2, api.ErrRange, api.ErrRange}, {2, math.MaxInt, api.ErrRange, api.ErrRange}, {2, math.MinInt, api.ErrRange, api.ErrRange},
	} {
		s := cyclic()
		if b, ok, e := maplaw.Holds(s, c.n, c.p); b != (maplaw.Breach{}) || ok != (e == api.OK) || e != c.one {
			t.Errorf("Holds(Cyclic, %d, %d) = %v, %v, %v, want %v", c.n, c.p, b, ok, e, c.one)
		}
		if l, e := maplaw.Parts(s, c.n, c.p); (len(l) > 0) != (e == api.OK) || e != c.one {
			t.Errorf("Parts(Cyclic, %d, %d) = %d parts, %v, want %v", c.n, c.p, len(l), e, c.one)
		}
		if b, ok, e := maplaw.First(s, c.n, c.p); b != (maplaw.Breach{}) || ok != (e == api.OK) || e != c.first {
			t.Errorf("First(Cyclic, %d, %d) = %v, %v, %v, want %v", c.n, c.p, b, ok, e, c.first)
		}
		if b, ok, e := maplaw.Same(s, s, c.n, c.p); b != (maplaw.Breach{}) || ok != (e == api.OK) || e != c.first {
			t.Errorf("Same(Cyclic, Cyclic, %d, %d) = %v, %v, %v, want %v", c.n, c.p, b, ok, e, c.first)
		}
		ofWrong(t, wrong, c.n, c.p, maplaw.ErrFormula)
		ofWrong(t, changed(1, sum(201)), c.n, c.p, api.ErrCount)
		ofWrong(t, changed(0, deep(31)), c.n, c.p, api.ErrDepth)
	}
}

// ofWrong asks all functions for the error of a scheme.
func ofWrong(t *testing.T, s maplaw.Scheme, n, p int, want api.Errno) {
	t.Helper()
	none := maplaw.Breach{}
	if b, ok, e := maplaw.Holds(s, n, p); b != none || ok || e != want {
		t.Errorf("Holds of a wrong scheme, %d, %d = %v, %v, %v, want %v", n, p, b, ok, e, want)
	}
	if b, ok, e := maplaw.First(s, n, p); b != none || ok || e != want {
		t.Errorf("First of a wrong scheme, %d, %d = %v, %v, %v, want %v", n, p, b, ok, e, want)
	}
	if l, e := maplaw.Parts(s, n, p); len(l) != 0 || e != want {
		t.Errorf("Parts of a wrong scheme, %d, %d = %v, %v, want %v", n, p, l, e, want)
	}
	for _, two := range [][2]maplaw.Scheme{{s, cyclic()}, {cyclic(), s}, {s, {}}} {
		if b, ok, e := maplaw.Same(two[0], two[1], n, p); b != none || ok || e != want {
			t.Errorf("Same of a wrong scheme, %d, %d = %v, %v, %v, want %v", n, p, b, ok, e, want)
		}
	}
}

// TestSame compares the first differences of owners with those of all positions.
func TestSame(t *testing.T) {
	l := schemes()
	block, _ := maplaw.Of(api.Map{Kind: api.Block})
	l = append(l, block)
	for i, a := range l {
		for _, b := range []maplaw.Scheme{cyclic(), block, a, l[(i*7+3)%len(l)], l[(i+1)%len(l)]} {
			for _, c := range [][2]int{{5, 4}, {2, 1}} {
				want, wantOk := different(a, b, c[0], c[1])
				if d, ok, e := maplaw.Same(a, b, c[0], c[1]); d != want || ok != wantOk || e != api.OK {
					t.Errorf("Same(%s, %s, %v) = %v, %v, %v, want %v", text(a), text(b), c, d, ok, e, want)
				}
			}
		}
	}
	both := changed(0, binary(num(1), "/", num(0)))
	if d, ok, e := maplaw.Same(both, changed(0, binary(num(2), "/", num(0))), 6, 6); d != (maplaw.Breach{}) || !ok || e != api.OK {
		t.Errorf("Same of two owners with faults = %v, %v, %v", d, ok, e)
	}
	want := maplaw.Breach{N: 1, P: 1, Position: 0, Locale: -1}
	if d, ok, e := maplaw.Same(both, cyclic(), 6, 6); d != want || ok || e != api.OK {
		t.Errorf("Same of an owner with a fault and 0 = %v, %v, %v", d, ok, e)
	}
}

// different returns the first difference of owners.
func different(a, b maplaw.Scheme, n, p int) (maplaw.Breach, bool) {
	for q := 1; q <= p; q++ {
		for m := 0; m <= n; m++ {
			for i := range m {
				one, ok := value(a.Owner, [5]int{m, q, i, 0, 0})
				other, otherOk := value(b.Owner, [5]int{m, q, i, 0, 0})
				if one != other || ok != otherOk {
					return maplaw.Breach{Law: 0, N: m, P: q, Position: i, Locale: -1}, false
				}
			}
		}
	}
	return maplaw.Breach{}, true
}

// TestOf compares the schemes of maps with their formulas in full parentheses.
func TestOf(t *testing.T) {
	for _, c := range []struct {
		m    api.Map
		want string
	}{
		{api.Map{Kind: api.Block}, "((i*p)/n); (i-((((((i*p)/n)*n)+p)-1)/p)); (((((l*n)+p)-1)/p)+k); ((((((l+1)*n)+p)-1)/p)-((((l*n)+p)-1)/p)); "},
		{api.Map{Kind: api.Cyclic}, "(i%p); (i/p); ((k*p)+l); ((((n-l)+p)-1)/p); "},
		{api.Map{Kind: api.BlockCyclic, Size: 3}, "((i/3)%p); (((i/(3*p))*3)+(i%3)); ((((k/3)*(3*p))+(l*3))+(k%3)); " +
			"(((n/(3*p))*3)+[(((n%(3*p))-(l*3))<0)?0:[(((n%(3*p))-(l*3))>3)?3:((n%(3*p))-(l*3))]]); "},
		{api.Map{Kind: api.BlockCyclic, Size: 1000}, "((i/1000)%p); (((i/(1000*p))*1000)+(i%1000)); ((((k/1000)*(1000*p))+(l*1000))+(k%1000)); " +
			"(((n/(1000*p))*1000)+[(((n%(1000*p))-(l*1000))<0)?0:[(((n%(1000*p))-(l*1000))>1000)?1000:((n%(1000*p))-(l*1000))]]); "},
	} {
		s, e := maplaw.Of(c.m)
		if text(s) != c.want || e != api.OK || maplaw.Check(s) != api.OK {
			t.Errorf("Of(%v) = %s, %v, want %s", c.m, text(s), e, c.want)
		}
	}
	for _, m := range []api.Map{{}, {Home: 1}, {Kind: api.Hashed}, {Kind: api.BlockCyclic}, {Kind: api.BlockCyclic, Size: -1}, {Kind: api.BlockCyclic, Size: 1001}, {Kind: api.BlockCyclic, Size: math.MaxInt}, {Kind: -1, Size: 1}, {Kind: 5, Size: 1}, {Kind: math.MinInt}} {
		s, e := maplaw.Of(m)
		for _, f := range formulas(s) {
			if !equal(f, api.Node{}) {
				t.Errorf("Of(%v) has the formula %v", m, f)
			}
		}
		if e != api.ErrArgument {
			t.Errorf("Of(%v) = %v", m, e)
		}
	}
}

// TestKnown asks that the schemes of maps have no breach, and the parts of layer 5.
func TestKnown(t *testing.T) {
	maps := []api.Map{{Kind: api.Block}, {Kind: api.Cyclic}}
	for _, size := range []int{1, 2, 3, 7, 16, 61, 999, 1000} {
		maps = append(maps, api.Map{Kind: api.BlockCyclic, Size: size})
	}
	for _, m := range maps {
		s, _ := maplaw.Of(m)
		if b, ok, e := maplaw.First(s, 60, 16); b != (maplaw.Breach{}) || !ok || e != api.OK {
			t.Errorf("First of %v = %v, %v, %v", m, b, ok, e)
		}
		for p := 1; p <= 64; p += 3 {
			for _, n := range []int{0, 1, 63, 64, 65, 500, 997, 999, 1000} {
				if b, ok, e := maplaw.Holds(s, n, p); b != (maplaw.Breach{}) || !ok || e != api.OK {
					t.Errorf("Holds of %v for %d and %d = %v, %v, %v", m, n, p, b, ok, e)
				}
			}
		}
		for p := 1; p <= api.MaxLocales; p++ {
			for _, n := range []int{0, 1, 2, 7, 8, 9, 100, 1000} {
				asMapped(t, m, s, n, p)
			}
		}
	}
}

// asMapped compares the parts of a scheme with those of a map.
func asMapped(t *testing.T, m api.Map, s maplaw.Scheme, n, p int) {
	t.Helper()
	d := api.Domain{Dims: []api.Range{{Low: 0, High: n - 1, Stride: 1}}, Map: m}
	if n == 0 {
		d.Dims[0] = api.Range{Low: 1, High: 0, Stride: 1}
	}
	parts, e := maplaw.Parts(s, n, p)
	if e != api.OK {
		t.Errorf("Parts of %v for %d and %d: %v", m, n, p, e)
	}
	for l, part := range parts {
		if want, e := dmap.Part(d, p, l); !slices.Equal(part, want) || e != api.OK {
			t.Errorf("Parts of %v for %d and %d = %v, want %v", m, n, p, parts, want)
		}
	}
}

// TestExample asks for the example.
func TestExample(t *testing.T) {
	s := changed(3, binary(name("n"), "/", name("p")))
	want := maplaw.Breach{Law: maplaw.CountSum, N: 1, P: 2, Position: -1, Locale: -1}
	if b, ok, e := maplaw.Holds(s, 1, 2); b != want || ok || e != api.OK {
		t.Errorf("Holds = %v, %v, %v", b, ok, e)
	}
	if b, ok, e := maplaw.First(s, 60, 16); b != want || ok || e != api.OK {
		t.Errorf("First = %v, %v, %v", b, ok, e)
	}
}

// TestArguments asks that schemes and formulas stay as they are, also behind the ends of their lists.
func TestArguments(t *testing.T) {
	kids := []api.Node{name("i"), name("p"), num(77)}
	s := changed(0, api.Node{Op: api.Binary, Name: "%", Kids: kids[:2]})
	maplaw.Check(s)
	maplaw.Holds(s, 9, 3)
	maplaw.First(s, 9, 3)
	maplaw.Parts(s, 9, 3)
	maplaw.Same(s, cyclic(), 9, 3)
	maplaw.Eval(s.Owner, [5]int{1, 2, 3, 4, 5})
	if !slices.EqualFunc(kids, []api.Node{name("i"), name("p"), num(77)}, equal) {
		t.Errorf("the Kids have become %v", kids)
	}
	for i, f := range formulas(s)[1:] {
		if !equal(f, formulas(cyclic())[i+1]) {
			t.Errorf("the formula %d has become %s", i+1, show(f))
		}
	}
}
