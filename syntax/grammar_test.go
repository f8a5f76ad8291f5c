package syntax_test

import (
	"slices"
	"strings"

	"raddle/api"
	"raddle/syntax"
	"raddle/token"
)

// grammar is that of the chapter, with the levels of operators, and with what is said of variables, of postfixes as statements and of numbers of dimensions; a statement that begins with { is a block.
const grammar = `
text = module*
module = 'module' NAME '{' item* '}'
item = 'use' NAME [ ( 'only' | 'except' ) names ] ';' | 'import' NAME 'as' NAME ';' | [ 'private' ] variable | [ 'private' ] ( 'proc' | 'iter' ) NAME '(' [ formals ] ')' [ ':' type ] [ 'where' expr ] block
names = NAME | names ',' NAME
formals = formal | formals ',' formal
variable = 'var' NAME ( ':' type [ '=' expr ] | '=' expr ) ';' | ( 'const' | 'param' ) NAME [ ':' type ] '=' expr ';'
formal = 'type' NAME | [ 'in' | 'const' | 'param' ] NAME ':' type
type = basic | NAME | '?' NAME | '[' expr ']' 'int'
basic = 'int' | 'bool' | 'range' | 'sync' | 'atomic' | 'void' | 'domain' '(' DIM ')' | 'array' '(' DIM ')'
block = '{' statement* '}'
statement = variable | block | if | 'while' expr block | ( 'for' | 'coforall' ) loop 'in' expr block | 'forall' loop 'in' expr [ 'with' '(' intents ')' ] block | 'begin' block | 'cobegin' '{' block* '}' | 'sync' block | 'on' expr block | 'return' [ expr ] ';' | 'yield' expr ';' | 'write' '(' [ outputs ] ')' ';' | 'assert' '(' expr ')' ';' | action
if = 'if' expr block [ 'else' ( block | if ) ]
outputs = output | outputs ',' output
output = expr | STRING
action = firstcall ';' | firsttarget ( '=' | '+=' | '-=' | '*=' ) expr ';'
firstcall = call | first '.' METHOD '(' [ exprs ] ')' | '(' anycall ')'
anycall = call | postfix '.' METHOD '(' [ exprs ] ')' | '(' anycall ')'
firsttarget = NAME | first '[' expr [ ',' expr ] ']' | '(' anytarget ')'
anytarget = NAME | postfix '[' expr [ ',' expr ] ']' | '(' anytarget ')'
loop = NAME | '(' NAME ',' NAME ')'
intents = intent | intents ',' intent
intent = operator 'reduce' NAME
operator = '+' | '*' | 'min' | 'max' | '&&' | '||'
expr = 'if' expr 'then' expr 'else' expr | operator 'reduce' expr | l1
l1 = l2 | l1 '||' l2
l2 = l3 | l2 '&&' l3
l3 = l4 | l3 ( '==' | '!=' ) l4
l4 = l5 | l4 ( '<' | '<=' | '>' | '>=' ) l5
l5 = l6 | l5 ( 'by' | '#' ) l7 | l5 'dmapped' ( 'block' | 'cyclic' | 'hashed' | 'blockcyclic' '(' expr ')' )
l6 = l7 [ '..' l7 ]
l7 = l8 | l7 ( '+' | '-' ) l8
l8 = l9 | l8 ( '*' | '/' | '%' ) l9
l9 = ( '-' | '!' ) l9 | postfix
postfix = first | '{' expr [ ',' expr ] '}' behind*
first = primary behind*
behind = '[' expr [ ',' expr ] ']' | '.' FIELD | '.' METHOD '(' [ exprs ] ')'
primary = INT | 'true' | 'false' | 'here' | 'numLocales' | '(' expr ')' | NAME [ '.' MEMBER ] | call
call = NAME [ '.' MEMBER ] '(' [ arguments ] ')'
exprs = expr | exprs ',' expr
arguments = argument | arguments ',' argument
argument = expr | basic
`

// rules has the productions of each nonterminal.
type rules map[string][][]string

// readGrammar turns brackets and stars into nonterminals of their own.
func readGrammar(text string) rules {
	all := rules{}
	for _, line := range strings.Split(strings.TrimSpace(text), "\n") {
		l := strings.Fields(line)
		rest := l[2:]
		all.alternatives(l[0], &rest)
	}
	return all
}

func (all rules) alternatives(name string, rest *[]string) {
	var one []string
	for len(*rest) > 0 {
		w := (*rest)[0]
		*rest = (*rest)[1:]
		part := name + "/" + strings.Repeat("'", len(all[name])) + strings.Repeat("-", len(one)) // a name that nothing else has
		switch {
		case w == "|":
			all[name] = append(all[name], one)
			one = nil
		case w == "(" || w == "[":
			all.alternatives(part, rest)
			if w == "[" {
				all[part] = append(all[part], []string{})
			}
			one = append(one, part)
		case w == ")" || w == "]":
			all[name] = append(all[name], one)
			return
		case strings.HasSuffix(w, "*") && w != "'*'":
			all[part] = [][]string{{}, {part, w[:len(w)-1]}}
			one = append(one, part)
		default:
			one = append(one, w)
		}
	}
	all[name] = append(all[name], one)
}

// fits reports whether a token is a terminal.
func fits(terminal string, t token.Token) bool {
	field := slices.Contains(strings.Fields("size low high stride domain"), t.Text)
	method := slices.Contains(strings.Fields(methodNames), t.Text)
	word := t.Kind == token.Name || t.Kind == token.Keyword
	switch terminal {
	case "NAME":
		return t.Kind == token.Name
	case "MEMBER":
		return t.Kind == token.Name && !field && !method
	case "FIELD":
		return word && field
	case "METHOD":
		return word && method
	case "INT":
		return t.Kind == token.Number
	case "DIM":
		return t.Kind == token.Number && (t.Text == "1" || t.Text == "2")
	case "STRING":
		return t.Kind == token.String
	}
	return (t.Kind == token.Keyword || t.Kind == token.Sign) && terminal == "'"+t.Text+"'"
}

// state is a production of a name, how much of it has been read, and from which token on.
type state struct {
	name       string
	production int
	dot, from  int
}

// recognize finds the first token behind which no text of the grammar can go on: the number of tokens, if there is none, but the text does not end there, and -1, if it may.
func (all rules) recognize(start string, tokens []token.Token) int {
	sets := make([][]state, len(tokens)+1)
	seen := make([]map[state]bool, len(tokens)+1)
	add := func(at int, s state) {
		if seen[at] == nil {
			seen[at] = map[state]bool{}
		}
		if !seen[at][s] {
			seen[at][s] = true
			sets[at] = append(sets[at], s)
		}
	}
	for i := range all[start] {
		add(0, state{start, i, 0, 0})
	}
	for at := 0; ; at++ {
		ends := all.complete(at, &sets[at], sets, add)
		if at == len(tokens) {
			if slices.ContainsFunc(ends, func(s state) bool { return s.name == start && s.from == 0 }) {
				return -1
			}
			return at
		}
		for _, s := range sets[at] {
			if p := all[s.name][s.production]; s.dot < len(p) && all[p[s.dot]] == nil && fits(p[s.dot], tokens[at]) {
				add(at+1, state{s.name, s.production, s.dot + 1, s.from})
			}
		}
		if len(sets[at+1]) == 0 {
			return at
		}
	}
}

// complete adds what a set implies, and returns the productions that end there.
func (all rules) complete(at int, set *[]state, sets [][]state, add func(int, state)) []state {
	var ends []state
	for i := 0; i < len(*set); i++ {
		s := (*set)[i]
		p := all[s.name][s.production]
		if s.dot < len(p) {
			for k := range all[p[s.dot]] {
				add(at, state{p[s.dot], k, 0, at})
			}
			for _, e := range ends { // of no tokens
				if e.name == p[s.dot] && e.from == at {
					add(at, state{s.name, s.production, s.dot + 1, s.from})
				}
			}
			continue
		}
		ends = append(ends, s)
		for _, o := range sets[s.from] {
			if q := all[o.name][o.production]; o.dot < len(q) && q[o.dot] == s.name {
				add(at, state{o.name, o.production, o.dot + 1, o.from})
			}
		}
	}
	return ends
}

// expected returns what reading a text that has these tokens must give.
func (all rules) expected(start, text string, tokens []token.Token) (int, api.Errno) {
	switch at := all.recognize(start, tokens); at {
	case -1:
		return 0, api.OK
	case len(tokens):
		return len(text), syntax.ErrEnd
	default:
		return tokens[at].At, syntax.ErrToken
	}
}
