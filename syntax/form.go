package syntax

import (
	"math"
	"strings"

	"raddle/api"
	"raddle/token"
)

// moduleRight says whether all of a module is right but the nodes of its trees.
func moduleRight(m Module) bool {
	if !token.IsName(m.Name) {
		return false
	}
	for _, u := range m.Uses {
		if !useRight(u) {
			return false
		}
	}
	for _, g := range m.Globals {
		if g.Var.Op != api.Var {
			return false
		}
	}
	for _, p := range m.Procs {
		if !procRight(p) {
			return false
		}
	}
	return true
}

func useRight(u Use) bool {
	if !token.IsName(u.Module) {
		return false
	}
	for _, n := range u.Names {
		if !token.IsName(n) {
			return false
		}
	}
	switch u.Kind {
	case All:
		return len(u.Names) == 0 && u.As == ""
	case Only, Except:
		return len(u.Names) > 0 && u.As == ""
	case Import:
		return len(u.Names) == 0 && token.IsName(u.As)
	}
	return false
}

func procRight(p api.Proc) bool {
	for _, f := range p.Formals {
		if !formalRight(f) {
			return false
		}
	}
	return token.IsName(p.Name) && isType(p.Result) && kidsRight("e?", p.Where) && kidsRight("s*", p.Body)
}

func formalRight(f api.Formal) bool {
	switch f.Intent {
	case "type":
		return token.IsName(f.Name) && Same(f.Type, api.Node{})
	case "", "in", "const", "param":
		return token.IsName(f.Name) && isType(f.Type)
	}
	return false
}

func isExpr(n api.Node) bool { return n.Op >= api.Int && n.Op <= api.Cond && n.Op != api.Str }
func isType(n api.Node) bool { return n.Op == api.Type || n.Op == api.Array }

func isStatement(n api.Node) bool { return n.Op >= api.Var && n.Op <= api.BlockOf }

// isPlain reports whether a node is a Name that is not of an import.
func isPlain(n api.Node) bool { return n.Op == api.Name && token.IsName(n.Name) }

func isBasic(n api.Node) bool { return n.Op == api.Type && isOne(n.Name, basicNames) }

func isCall(n api.Node) bool { return n.Op == api.Call || n.Op == api.Method }

func isTarget(n api.Node) bool { return isPlain(n) || n.Op == api.Index }

// nodesRight says whether each node of trees is right, as far as its own fields and the Ops of its Kids say. An Op that is none of api's is no Kid of another one, and the roots are looked at by who has them.
func nodesRight(l []api.Node) bool {
	for _, n := range walk(l) {
		if !numberRight(n) || !nameRight(n) || !kidsRight(shape(n), n.Kids) {
			return false
		}
	}
	return true
}

func numberRight(n api.Node) bool {
	switch n.Op {
	case api.Int:
		return n.Num != math.MinInt
	case api.Bool:
		return n.Num == 0 || n.Num == 1
	case api.Var:
		return varShape(n.Num) != ""
	case api.For, api.Forall, api.Coforall:
		return n.Num == 1 || n.Num == 2
	}
	return n.Num == 0
}

func nameRight(n api.Node) bool {
	switch n.Op {
	case api.Str:
		return true
	case api.Name, api.Call:
		module, member, dotted := strings.Cut(n.Name, ".")
		return token.IsName(module) && (!dotted || isMember(member))
	case api.Type:
		return isBasic(n) || token.IsName(strings.TrimPrefix(n.Name, "?"))
	case api.Var:
		return token.IsName(n.Name)
	case api.Unary:
		return isOne(n.Name, "- !")
	case api.Binary:
		return isOne(n.Name, "+ - * / % == != < <= > >= && ||")
	case api.Mapped:
		return isOne(n.Name, mapWords+" blockcyclic")
	case api.Field:
		return isField(n.Name)
	case api.Method:
		return isMethod(n.Name)
	case api.Reduce, api.Intent:
		return isOne(n.Name, reduceWords)
	case api.Assign:
		return isOne(n.Name, assignWords)
	}
	return n.Name == ""
}

// shape returns what the Kids of a node must be: a letter for each one, behind the last one perhaps ? (it may be missing) or * (any number). Ops that are not listed have no Kids.
func shape(n api.Node) string {
	switch n.Op {
	case api.Mapped:
		if n.Name == "blockcyclic" {
			return "ee"
		}
		return "e"
	case api.Unary, api.Field, api.Reduce, api.Array, api.Yield, api.Assert:
		return "e"
	case api.Binary, api.RangeOf, api.By, api.Count:
		return "ee"
	case api.DomainOf:
		return "ee?"
	case api.Index:
		return "eee?"
	case api.Cond:
		return "eee"
	case api.Call:
		return "a*"
	case api.Method:
		return "ee*"
	case api.Return:
		return "e?"
	}
	return statementShape(n)
}

func statementShape(n api.Node) string {
	switch n.Op {
	case api.Var:
		return varShape(n.Num)
	case api.Assign:
		return "xe"
	case api.If:
		return "ebb?"
	case api.While, api.On:
		return "eb"
	case api.For, api.Coforall:
		return strings.Repeat("n", n.Num) + "eb"
	case api.Forall:
		return strings.Repeat("n", n.Num) + "ebi*"
	case api.Begin, api.Sync:
		return "b"
	case api.Cobegin:
		return "b*"
	case api.Do:
		return "c"
	case api.Write:
		return "w*"
	case api.BlockOf:
		return "s*"
	case api.Intent:
		return "n"
	}
	return ""
}

// varShape returns the shape of a variable with these flags, an empty one for others.
func varShape(flags int) string {
	switch flags {
	case api.HasType:
		return "t"
	case api.HasInit, api.HasInit | api.IsConst, api.HasInit | api.IsParam:
		return "e"
	case api.HasType | api.HasInit, api.HasType | api.HasInit | api.IsConst, api.HasType | api.HasInit | api.IsParam:
		return "te"
	}
	return ""
}

func kidsRight(shape string, l []api.Node) bool {
	letters := strings.TrimRight(shape, "?*")
	least, most := len(letters), len(letters)
	switch {
	case strings.HasSuffix(shape, "?"):
		least--
	case strings.HasSuffix(shape, "*"):
		least, most = least-1, math.MaxInt
	}
	if len(l) < least || len(l) > most {
		return false
	}
	for i, n := range l {
		if !kidRight(letters[min(i, len(letters)-1)], n) {
			return false
		}
	}
	return true
}

func kidRight(letter byte, n api.Node) bool {
	switch letter {
	case 'e':
		return isExpr(n)
	case 't':
		return isType(n)
	case 's':
		return isStatement(n)
	case 'b':
		return n.Op == api.BlockOf
	case 'n':
		return isPlain(n)
	case 'i':
		return n.Op == api.Intent
	case 'x':
		return isTarget(n)
	case 'c':
		return isCall(n)
	case 'a':
		return isExpr(n) || isBasic(n)
	case 'w':
		return isExpr(n) || n.Op == api.Str
	}
	return false
}
