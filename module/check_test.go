package module_test

import (
	"math/rand"
	"slices"
	"testing"

	"raddle/api"
	"raddle/module"
	"raddle/syntax"
)

func pick(r *rand.Rand, l ...string) string { return l[r.Intn(len(l))] }

// roughModules makes modules in which much can be wrong.
func roughModules(r *rand.Rand) []syntax.Module {
	var l []syntax.Module
	names := []string{"A", "B", "C", "D"}
	for i := range 1 + r.Intn(4) {
		m := syntax.Module{Name: names[i]}
		if r.Intn(20) == 0 {
			m.Name = pick(r, names...)
		}
		if r.Intn(40) == 0 {
			m.Name = "for"
		}
		for range r.Intn(3) {
			m.Globals = append(m.Globals, syntax.Global{Private: r.Intn(5) == 0, Var: api.Node{Op: api.Var, Name: pick(r, "a", "b", "c", "d", "e"), Num: 1, Kids: []api.Node{{Op: api.Type, Name: "int"}}}})
		}
		for range r.Intn(3) {
			m.Procs = append(m.Procs, api.Proc{Private: r.Intn(5) == 0, Name: pick(r, "e", "f", "g", "h", "a"), Result: api.Node{Op: api.Type, Name: "void"}})
		}
		for range r.Intn(3) {
			u := syntax.Use{Kind: r.Intn(4), Module: pick(r, "A", "B", "C", "D")}
			switch u.Kind {
			case syntax.Only, syntax.Except:
				u.Names = []string{pick(r, "a", "b", "e", "f"), pick(r, "a", "b", "e", "f")}[:1+r.Intn(2)]
			case syntax.Import:
				u.As = pick(r, "P", "Q", "R")
			}
			m.Uses = append(m.Uses, u)
		}
		l = append(l, m)
	}
	return l
}

// rough asks for one error after the other, with lists alone.
type rough []syntax.Module

func (l rough) find(name string) int {
	return slices.IndexFunc(l, func(m syntax.Module) bool { return m.Name == name })
}

// privacy returns the flags of what a module has with a name, in the order that counts.
func (l rough) privacy(i int, name string) (globals, procs []bool) {
	for _, g := range l[i].Globals {
		if g.Var.Name == name {
			globals = append(globals, g.Private)
		}
	}
	for _, p := range l[i].Procs {
		if p.Name == name {
			procs = append(procs, p.Private)
		}
	}
	return globals, procs
}

func (l rough) public(i int, name string) bool {
	globals, procs := l.privacy(i, name)
	all := append(globals, procs...)
	return len(all) > 0 && !all[0]
}

func (l rough) has(i int, name string) bool {
	globals, procs := l.privacy(i, name)
	return len(globals)+len(procs) > 0
}

func (l rough) names() []string { return []string{"a", "b", "c", "d", "e", "f", "g", "h"} }

func (l rough) wrongForm(i int) bool { return syntax.Form(l[i:i+1]) != api.OK }

func (l rough) twice(i int) bool { return l.find(l[i].Name) < i }

func (l rough) noModule(i int) bool {
	return slices.ContainsFunc(l[i].Uses, func(u syntax.Use) bool { return l.find(u.Module) < 0 || u.Module == l[i].Name })
}

func (l rough) ownClash(i int) bool {
	for _, n := range l.names() {
		if globals, procs := l.privacy(i, n); len(globals) > 1 || len(globals) == 1 && len(procs) > 0 {
			return true
		}
	}
	for j, u := range l[i].Uses {
		for _, v := range l[i].Uses[:j] {
			if u.Kind == syntax.Import && v.Kind == syntax.Import && u.As == v.As {
				return true
			}
		}
	}
	return false
}

func (l rough) wrongList(i int) bool {
	for _, u := range l[i].Uses {
		for _, n := range u.Names {
			if !l.public(l.find(u.Module), n) {
				return true
			}
		}
	}
	return false
}

func (l rough) shows(u syntax.Use, n string) bool {
	listed := slices.Contains(u.Names, n)
	return l.public(l.find(u.Module), n) && (u.Kind == syntax.All || u.Kind == syntax.Only && listed || u.Kind == syntax.Except && !listed)
}

func (l rough) useClash(i int) bool {
	for _, n := range l.names() {
		for _, u := range l[i].Uses {
			for _, v := range l[i].Uses {
				if u.Module != v.Module && !l.has(i, n) && l.shows(u, n) && l.shows(v, n) {
					return true
				}
			}
		}
	}
	return false
}

func (l rough) check() (int, api.Errno) {
	for _, c := range []struct {
		found func(int) bool
		e     api.Errno
	}{{l.wrongForm, api.ErrForm}, {l.twice, module.ErrModule}, {l.noModule, module.ErrModule}, {l.ownClash, module.ErrClash}, {l.wrongList, module.ErrUse}, {l.useClash, module.ErrClash}} {
		for i := range l {
			if c.found(i) {
				return i, c.e
			}
		}
	}
	return 0, api.OK
}

func TestCheckRandom(t *testing.T) {
	r := rand.New(rand.NewSource(8))
	seen := map[fault]int{}
	for range 20000 {
		l := roughModules(r)
		at, e := module.Check(l)
		wantAt, want := rough(l).check()
		if at != wantAt || e != want {
			t.Fatalf("%v: %d %d, want %d %d", l, at, e, wantAt, want)
		}
		seen[fault{at, e}]++
		if e == api.OK {
			continue
		}
		order, e1 := module.Order(l)
		names, of, e2 := module.Visible(l, 0)
		cycles, e3 := module.Cycles(l)
		name, e4 := module.Name(l, 0, "a")
		p, linkAt, e5 := module.Link(l)
		if e1 != e || e2 != e || e3 != e || e4 != e || e5 != e || linkAt != at || len(order)+len(names)+len(of)+len(cycles)+len(name)+len(p.Globals) > 0 {
			t.Fatal(l, e1, e2, e3, e4, e5, linkAt)
		}
	}
	for _, e := range []api.Errno{api.ErrForm, module.ErrModule, module.ErrClash, module.ErrUse} {
		for i := range 2 {
			if seen[fault{i, e}] < 20 {
				t.Error(seen)
			}
		}
	}
}
