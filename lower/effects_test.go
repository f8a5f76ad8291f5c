package lower_test

import (
	"math/rand"
	"slices"
	"strconv"
	"strings"
	"testing"

	"raddle/api"
	"raddle/check"
	"raddle/inline"
	"raddle/syntax"
)

// made returns random programs with iterators that are right, and what they become without.
func made(t *testing.T, seed int64, count int, do func(text string, p, without api.Program)) {
	t.Helper()
	r := &maker{Rand: rand.New(rand.NewSource(seed))}
	for range count {
		text := r.program()
		p, at, e := syntax.Program("module M { " + text + " }")
		if e == api.ErrCount {
			continue
		}
		if e != api.OK {
			t.Fatalf("%s: %v at %d", text, e, at)
		}
		if fault, e := check.Program(p); e != api.OK {
			t.Fatalf("%s: %v, %v", text, fault, e)
		}
		without, e := inline.Program(p)
		switch {
		case e == api.ErrLarge || e == api.ErrCount || e == api.ErrDepth:
			continue
		case e != api.OK:
			t.Fatalf("%s: inline.Program = %v", text, e)
		}
		do(text, p, without)
	}
}

// TestEffects asks P5 of random programs: without iterators, and as code, they have the same effects.
func TestEffects(t *testing.T) {
	iterators, ends := 0, map[string]int{}
	made(t, 17, 600, func(text string, p, without api.Program) {
		locales := 1 + len(text)%3
		want := runTree(p, locales)
		runs := []struct{ what, got string }{{"without iterators", runTree(without, locales)}, {"as code", runCode(codeOf(t, without), locales)}}
		ends[want[strings.LastIndex(want, "\n")+1:]]++
		if slices.ContainsFunc(p.Procs, func(f api.Proc) bool { return f.Iter }) {
			iterators++
		}
		for _, run := range runs {
			if run.got != want && !isTired(run.got) && !isTired(want) {
				t.Fatalf("%s\n%s: %s", text, run.what, difference(run.got, want))
			}
		}
	})
	if ends["end 0"] < 150 || ends["end 21"] == 0 || ends["end 22"] == 0 || iterators < 300 {
		t.Errorf("only %d programs with iterators, %v", iterators, ends)
	}
}

// isTired reports whether a run was too long: inlined loops have more statements.
func isTired(effects string) bool { return strings.HasSuffix(effects, "end 8") }

// difference tells the first line in which effects differ.
func difference(got, want string) string {
	a, b := strings.Split(got, "\n"), strings.Split(want, "\n")
	for i := range min(len(a), len(b)) {
		if a[i] != b[i] {
			return "line " + strconv.Itoa(i) + " is " + a[i] + ", want " + b[i]
		}
	}
	return strconv.Itoa(len(a)) + " lines, want " + strconv.Itoa(len(b))
}
