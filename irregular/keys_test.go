package irregular_test

import (
	"slices"
	"strconv"
	"strings"
	"testing"

	"raddle/api"
	"raddle/irregular"
)

// words are the keys from which small associative domains are made: ascending byte by byte.
func words() []string {
	return []string{"", "\x00", "B", "a", "a\x00", "\xff"}
}

// many returns n ascending keys.
func many(n int) irregular.Keys {
	var k irregular.Keys
	for i := range n {
		k = append(k, "k"+strconv.Itoa(100000+i))
	}
	return k
}

// wrongKeys is an associative domain with an error.
type wrongKeys struct {
	k irregular.Keys
	e api.Errno
}

// allWrongKeys returns associative domains with an error, some with another one that comes later.
func allWrongKeys() []wrongKeys {
	long := strings.Repeat("x", 101)
	return []wrongKeys{
		{irregular.Keys{"b", "a"}, irregular.ErrOrder},
		{irregular.Keys{"a", "a"}, irregular.ErrOrder},
		{irregular.Keys{"", ""}, irregular.ErrOrder},
		{irregular.Keys{"a", "B"}, irregular.ErrOrder},
		{irregular.Keys{"a\x00", "a"}, irregular.ErrOrder},
		{irregular.Keys{"\xff", "é"}, irregular.ErrOrder},
		{irregular.Keys{"a", "b", "b"}, irregular.ErrOrder},
		{irregular.Keys{long}, api.ErrLarge},
		{irregular.Keys{"y", long}, api.ErrLarge},
		{irregular.Keys{"a", long, "b"}, api.ErrLarge},
		{irregular.Keys{"b", "a", long}, irregular.ErrOrder},
		{irregular.Keys{strings.Repeat("é", 51)}, api.ErrLarge},
		{many(5001), api.ErrCount},
		{append(many(5000), "a"), api.ErrCount},
		{append(many(5000), long), api.ErrCount},
	}
}

// keySet is a function of two associative domains, and what it keeps.
type keySet struct {
	name string
	f    func(a, b irregular.Keys) (irregular.Keys, api.Errno)
	keep func(first, second bool) bool
}

func keySets() []keySet {
	return []keySet{
		{"Join", irregular.Join, func(first, second bool) bool { return first || second }},
		{"Meet", irregular.Meet, func(first, second bool) bool { return first && second }},
		{"Less", irregular.Less, func(first, second bool) bool { return first && !second }},
		{"Odd", irregular.Odd, func(first, second bool) bool { return first != second }},
	}
}

// TestCheckKeys asks for errors, and for the greatest associative domains.
func TestCheckKeys(t *testing.T) {
	for _, w := range allWrongKeys() {
		if e := irregular.CheckKeys(w.k); e != w.e {
			t.Errorf("CheckKeys(%d keys) = %v, want %v", len(w.k), e, w.e)
		}
	}
	for _, k := range []irregular.Keys{nil, {}, {""}, words(), many(5000), {strings.Repeat("x", 100)}, {strings.Repeat("é", 50)}, {strings.Repeat("x", 99), strings.Repeat("x", 100)}} {
		if e := irregular.CheckKeys(k); e != api.OK {
			t.Errorf("CheckKeys(%d keys) = %v", len(k), e)
		}
	}
}

// TestAddRemove adds and removes each key to and from all small associative domains.
func TestAddRemove(t *testing.T) {
	for _, at := range subsets(len(words())) {
		k := irregular.Keys(picked(words(), at))
		for _, key := range append(words(), "aa", "\xc3") {
			was := slices.Contains(k, key)
			with := irregular.Keys(kept(k, []string{key}, func(first, second bool) bool { return true }))
			without := irregular.Keys(kept(k, []string{key}, func(first, second bool) bool { return !second }))
			more, fresh, e := irregular.Add(k, key)
			if !slices.Equal(more, with) || fresh == was || e != api.OK {
				t.Errorf("Add(%q, %q) = %q, %v, %v", k, key, more, fresh, e)
			}
			less, there, e := irregular.Remove(k, key)
			if !slices.Equal(less, without) || there != was || e != api.OK {
				t.Errorf("Remove(%q, %q) = %q, %v, %v", k, key, less, there, e)
			}
			if back, _, _ := irregular.Remove(more, key); !was && !slices.Equal(back, k) {
				t.Errorf("Add(%q, %q) and Remove = %q", k, key, back)
			}
			if back, _, _ := irregular.Add(less, key); was && !slices.Equal(back, k) {
				t.Errorf("Remove(%q, %q) and Add = %q", k, key, back)
			}
		}
	}
}

// TestAddErrors asks for the errors of Add and Remove, in their order.
func TestAddErrors(t *testing.T) {
	long := strings.Repeat("x", 101)
	for _, w := range allWrongKeys() {
		if k, ok, e := irregular.Add(w.k, long); len(k) != 0 || ok || e != w.e {
			t.Errorf("Add = %d keys, %v, %v, want %v", len(k), ok, e, w.e)
		}
		if k, ok, e := irregular.Remove(w.k, long); len(k) != 0 || ok || e != w.e {
			t.Errorf("Remove = %d keys, %v, %v, want %v", len(k), ok, e, w.e)
		}
	}
	for _, k := range []irregular.Keys{nil, {"a"}, many(5000)} {
		if l, ok, e := irregular.Add(k, long); len(l) != 0 || ok || e != api.ErrLarge {
			t.Errorf("Add of a long key = %d keys, %v, %v", len(l), ok, e)
		}
		if l, ok, e := irregular.Remove(k, long); len(l) != 0 || ok || e != api.ErrLarge {
			t.Errorf("Remove of a long key = %d keys, %v, %v", len(l), ok, e)
		}
		if l, ok, e := irregular.Remove(k, long[:100]); !slices.Equal(l, k) || ok || e != api.OK {
			t.Errorf("Remove of no key = %d keys, %v, %v", len(l), ok, e)
		}
	}
	full := many(5000)
	if k, ok, e := irregular.Add(full, "new"); len(k) != 0 || ok || e != api.ErrCount {
		t.Errorf("Add of a key too many = %d keys, %v, %v", len(k), ok, e)
	}
	if k, ok, e := irregular.Add(full, full[77]); !slices.Equal(k, full) || ok || e != api.OK {
		t.Errorf("Add of a known key = %d keys, %v, %v", len(k), ok, e)
	}
	if k, ok, e := irregular.Add(full[:4999], long[:100]); len(k) != 5000 || !ok || e != api.OK {
		t.Errorf("Add of the last key = %d keys, %v, %v", len(k), ok, e)
	}
	if k, ok, e := irregular.Remove(full, full[4999]); !slices.Equal(k, full[:4999]) || !ok || e != api.OK {
		t.Errorf("Remove = %d keys, %v, %v", len(k), ok, e)
	}
}

// TestKeySets compares the operations of all pairs of associative domains with those of lists.
func TestKeySets(t *testing.T) {
	for _, first := range subsets(len(words())) {
		for _, second := range subsets(len(words())) {
			a, b := irregular.Keys(picked(words(), first)), irregular.Keys(picked(words(), second))
			for _, set := range keySets() {
				want := irregular.Keys(kept(a, b, set.keep))
				if got, e := set.f(a, b); !slices.Equal(got, want) || e != api.OK {
					t.Errorf("%s(%q, %q) = %q, %v, want %q", set.name, a, b, got, e, want)
				}
			}
			laws(t, a, b)
		}
	}
}

// laws asks for the laws of two sets.
func laws(t *testing.T, a, b irregular.Keys) {
	t.Helper()
	join, _ := irregular.Join(a, b)
	other, _ := irregular.Join(b, a)
	meet, _ := irregular.Meet(a, b)
	odd, _ := irregular.Odd(a, b)
	less, _ := irregular.Less(a, b)
	rest, _ := irregular.Less(join, meet)
	whole, _ := irregular.Join(less, meet)
	absorbed, _ := irregular.Meet(a, join)
	if !slices.Equal(join, other) || !slices.Equal(odd, rest) || !slices.Equal(whole, a) || !slices.Equal(absorbed, a) || len(join)+len(meet) != len(a)+len(b) {
		t.Errorf("the sets %q and %q: %q, %q, %q, %q", a, b, join, meet, odd, less)
	}
}

// TestKeySetsErrors asks for the first error, and for too many keys.
func TestKeySetsErrors(t *testing.T) {
	full := many(5000)
	for _, set := range keySets() {
		for _, w := range allWrongKeys() {
			for _, other := range []irregular.Keys{nil, {"a"}, full, {"b", "a"}, {strings.Repeat("x", 101)}} {
				if k, e := set.f(w.k, other); len(k) != 0 || e != w.e {
					t.Errorf("%s of a wrong first one: %d keys, %v, want %v", set.name, len(k), e, w.e)
				}
			}
			for _, other := range []irregular.Keys{nil, {"a"}, full} {
				if k, e := set.f(other, w.k); len(k) != 0 || e != w.e {
					t.Errorf("%s of a wrong second one: %d keys, %v, want %v", set.name, len(k), e, w.e)
				}
			}
		}
		for _, c := range []struct{ a, b irregular.Keys }{{full, full}, {full[:2500], full[2500:]}, {full, full[7:9]}, {full, irregular.Keys{"a"}}, {irregular.Keys{"z"}, full}, {full[1:], irregular.Keys{"a"}}} {
			want, wantE := irregular.Keys(kept(c.a, c.b, set.keep)), api.OK
			if len(want) > 5000 {
				want, wantE = nil, api.ErrCount
			}
			if got, e := set.f(c.a, c.b); !slices.Equal(got, want) || e != wantE {
				t.Errorf("%s of %d and %d keys: %d, %v, want %d, %v", set.name, len(c.a), len(c.b), len(got), e, len(want), wantE)
			}
		}
	}
}
