package syntax

import (
	"strings"

	"raddle/api"
	"raddle/token"
)

func (r *reader) block() api.Node {
	n := api.Node{Op: api.BlockOf}
	r.expect("{")
	for !r.accept("}") {
		n.Kids = append(n.Kids, r.statement())
	}
	return n
}

func (r *reader) statement() api.Node {
	switch r.word() {
	case "var", "const", "param":
		return r.variable()
	case "{":
		return r.block()
	case "for", "forall", "coforall":
		return r.loop()
	case "return", "yield", "write", "assert":
		n := r.simple()
		r.expect(";")
		return n
	case "if", "while", "on", "begin", "sync", "cobegin":
		return r.compound()
	}
	return r.action()
}

// compound reads a statement that is a head with blocks.
func (r *reader) compound() api.Node {
	switch r.acceptOne([]string{"if", "while", "on", "begin", "sync"}) {
	case "if":
		return r.choice()
	case "while":
		return api.Node{Op: api.While, Kids: []api.Node{r.expr(), r.block()}}
	case "on":
		return api.Node{Op: api.On, Kids: []api.Node{r.expr(), r.block()}}
	case "begin":
		return api.Node{Op: api.Begin, Kids: []api.Node{r.block()}}
	case "sync":
		return api.Node{Op: api.Sync, Kids: []api.Node{r.block()}}
	}
	r.expect("cobegin")
	n := api.Node{Op: api.Cobegin}
	r.expect("{")
	for !r.accept("}") {
		n.Kids = append(n.Kids, r.block())
	}
	return n
}

// choice reads an if from behind this word.
func (r *reader) choice() api.Node {
	n := api.Node{Op: api.If, Kids: []api.Node{r.expr(), r.block()}}
	if !r.accept("else") {
		return n
	}
	if r.accept("if") {
		n.Kids = append(n.Kids, api.Node{Op: api.BlockOf, Kids: []api.Node{r.choice()}})
	} else {
		n.Kids = append(n.Kids, r.block())
	}
	return n
}

func (r *reader) loop() api.Node {
	n := api.Node{Op: api.For}
	switch r.acceptOne([]string{"for", "forall", "coforall"}) {
	case "forall":
		n.Op = api.Forall
	case "coforall":
		n.Op = api.Coforall
	}
	n.Kids = r.loopNames()
	n.Num = len(n.Kids)
	r.expect("in")
	n.Kids = append(n.Kids, r.expr())
	intents := []api.Node{}
	if n.Op == api.Forall && r.accept("with") {
		r.expect("(")
		r.listed(func() { intents = append(intents, r.intent()) })
		r.expect(")")
	}
	n.Kids = append(n.Kids, r.block())
	n.Kids = append(n.Kids, intents...)
	return n
}

func (r *reader) loopNames() []api.Node {
	if !r.accept("(") {
		return []api.Node{r.nameNode()}
	}
	first := r.nameNode()
	r.expect(",")
	second := r.nameNode()
	r.expect(")")
	return []api.Node{first, second}
}

func (r *reader) nameNode() api.Node { return api.Node{Op: api.Name, Name: r.name()} }

func (r *reader) intent() api.Node {
	n := api.Node{Op: api.Intent, Name: r.acceptOne(strings.Fields(reduceWords))}
	if n.Name == "" {
		r.fail()
	}
	r.expect("reduce")
	n.Kids = []api.Node{r.nameNode()}
	return n
}

// simple reads a statement that begins with a word, up to its semicolon.
func (r *reader) simple() api.Node {
	switch r.acceptOne([]string{"return", "yield", "write", "assert"}) {
	case "return":
		if r.word() == ";" {
			return api.Node{Op: api.Return}
		}
		return api.Node{Op: api.Return, Kids: []api.Node{r.expr()}}
	case "yield":
		return api.Node{Op: api.Yield, Kids: []api.Node{r.expr()}}
	case "write":
		n := api.Node{Op: api.Write}
		r.expect("(")
		r.enclosed(func() { n.Kids = append(n.Kids, r.output()) })
		return n
	}
	r.expect("(")
	n := api.Node{Op: api.Assert, Kids: []api.Node{r.expr()}}
	r.expect(")")
	return n
}

func (r *reader) output() api.Node {
	if t := r.peek(0); t.Kind == token.String {
		r.at++
		return api.Node{Op: api.Str, Name: t.Text}
	}
	return r.expr()
}

// action reads an assignment or a call.
func (r *reader) action() api.Node {
	n := r.postfix()
	if isTarget(n) {
		op := r.acceptOne(strings.Fields(assignWords))
		if op == "" {
			r.fail()
		}
		n = api.Node{Op: api.Assign, Name: op, Kids: []api.Node{n, r.expr()}}
	} else if isCall(n) {
		n = api.Node{Op: api.Do, Kids: []api.Node{n}}
	} else {
		r.fail()
	}
	r.expect(";")
	return n
}
