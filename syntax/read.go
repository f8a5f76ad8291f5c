package syntax

import (
	"strings"

	"raddle/api"
	"raddle/token"
)

// reader reads tokens, from the token at on; it leaves by a panic with a stop, where no token can stand.
type reader struct {
	tokens []token.Token
	at     int
	end    int // length of the text
}

type stop struct {
	at   int
	code api.Errno
}

// parse reads a text, and returns the error with which the reader was left.
func parse(text string, read func(*reader)) (at int, e api.Errno) {
	l, at, e := token.Scan(text)
	if e != api.OK {
		return at, e
	}
	defer func() {
		if s, ok := recover().(stop); ok {
			at, e = s.at, s.code
		}
	}()
	read(&reader{tokens: l, end: len(text)})
	return 0, api.OK
}

// fail leaves with the token that is next, which cannot stand there.
func (r *reader) fail() {
	if r.at == len(r.tokens) {
		panic(stop{r.end, ErrEnd})
	}
	panic(stop{r.tokens[r.at].At, ErrToken})
}

// peek returns the token that stands some tokens ahead, a zero one behind the end.
func (r *reader) peek(ahead int) token.Token {
	if r.at+ahead >= len(r.tokens) {
		return token.Token{}
	}
	return r.tokens[r.at+ahead]
}

// word returns the keyword or the sign that is next, nothing if another token is.
func (r *reader) word() string { return wordOf(r.peek(0)) }

func wordOf(t token.Token) string {
	if t.Kind != token.Keyword && t.Kind != token.Sign {
		return ""
	}
	return t.Text
}

// accept goes on behind a keyword or a sign, if it is next.
func (r *reader) accept(word string) bool {
	if r.word() != word {
		return false
	}
	r.at++
	return true
}

// acceptOne goes on behind one of some words, and returns it, or nothing.
func (r *reader) acceptOne(words []string) string {
	for _, w := range words {
		if r.accept(w) {
			return w
		}
	}
	return ""
}

func (r *reader) expect(word string) {
	if !r.accept(word) {
		r.fail()
	}
}

func (r *reader) name() string {
	t := r.peek(0)
	if t.Kind != token.Name {
		r.fail()
	}
	r.at++
	return t.Text
}

// listed reads one or more parts with commas between.
func (r *reader) listed(part func()) {
	part()
	for r.accept(",") {
		part()
	}
}

// enclosed reads any number of parts with commas between, and the bracket that closes them.
func (r *reader) enclosed(part func()) {
	if !r.accept(")") {
		r.listed(part)
		r.expect(")")
	}
}

func (r *reader) module() Module {
	r.expect("module")
	m := Module{Name: r.name()}
	r.expect("{")
	for !r.accept("}") {
		r.item(&m)
	}
	return m
}

func (r *reader) item(m *Module) {
	switch r.word() {
	case "use", "import":
		m.Uses = append(m.Uses, r.use())
		return
	}
	private := r.accept("private")
	switch r.word() {
	case "proc", "iter":
		p := r.procedure()
		p.Private = private
		m.Procs = append(m.Procs, p)
	default:
		m.Globals = append(m.Globals, Global{private, r.variable()})
	}
}

func (r *reader) use() Use {
	u := Use{}
	if r.accept("import") {
		u.Kind, u.Module = Import, r.name()
		r.expect("as")
		u.As = r.name()
		r.expect(";")
		return u
	}
	r.expect("use")
	u.Module = r.name()
	switch r.acceptOne([]string{"only", "except"}) {
	case "only":
		u.Kind = Only
	case "except":
		u.Kind = Except
	}
	if u.Kind != All {
		r.listed(func() { u.Names = append(u.Names, r.name()) })
	}
	r.expect(";")
	return u
}

func (r *reader) procedure() api.Proc {
	p := api.Proc{Result: api.Node{Op: api.Type, Name: "void"}}
	p.Iter = r.acceptOne([]string{"proc", "iter"}) == "iter"
	p.Name = r.name()
	r.expect("(")
	r.enclosed(func() { p.Formals = append(p.Formals, r.formal()) })
	if r.accept(":") {
		p.Result = r.typeOf()
	}
	if r.accept("where") {
		p.Where = []api.Node{r.expr()}
	}
	p.Body = r.block().Kids
	return p
}

func (r *reader) formal() api.Formal {
	f := api.Formal{Intent: r.acceptOne([]string{"type", "in", "const", "param"})}
	f.Name = r.name()
	if f.Intent != "type" {
		r.expect(":")
		f.Type = r.typeOf()
	}
	return f
}

func (r *reader) typeOf() api.Node {
	if n, ok := r.basic(); ok {
		return n
	}
	switch {
	case r.accept("?"):
		return api.Node{Op: api.Type, Name: "?" + r.name()}
	case r.accept("["):
		domain := r.expr()
		r.expect("]")
		r.expect("int")
		return api.Node{Op: api.Array, Kids: []api.Node{domain}}
	}
	return api.Node{Op: api.Type, Name: r.name()}
}

// basic reads a basic type, if one is next.
func (r *reader) basic() (api.Node, bool) {
	name := r.acceptOne(strings.Fields(basicWords))
	if name == "" {
		name = r.acceptOne([]string{"domain", "array"})
		if name == "" {
			return api.Node{}, false
		}
		r.expect("(")
		name += r.dimensions()
		r.expect(")")
	}
	return api.Node{Op: api.Type, Name: name}, true
}

func (r *reader) dimensions() string {
	t := r.peek(0)
	if t.Kind != token.Number || t.Value != 1 && t.Value != 2 {
		r.fail()
	}
	r.at++
	return t.Text
}

func (r *reader) variable() api.Node {
	n := api.Node{Op: api.Var}
	switch r.acceptOne([]string{"var", "const", "param"}) {
	case "const":
		n.Num = api.IsConst
	case "param":
		n.Num = api.IsParam
	case "":
		r.fail()
	}
	n.Name = r.name()
	if r.accept(":") {
		n.Num |= api.HasType
		n.Kids = append(n.Kids, r.typeOf())
	}
	if r.accept("=") {
		n.Num |= api.HasInit
		n.Kids = append(n.Kids, r.expr())
	}
	if varShape(n.Num) == "" {
		r.fail()
	}
	r.expect(";")
	return n
}
