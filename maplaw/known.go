package maplaw

import (
	"slices"
	"strconv"
	"strings"

	"raddle/api"
)

// maxBlock is the greatest size of the blocks of a map.
const maxBlock = 1000

// Of returns the scheme of a map of layer 5 (Block, Cyclic, BlockCyclic).
func Of(m api.Map) (Scheme, api.Errno) {
	switch {
	case m.Kind == api.Block:
		return Scheme{
			Owner:  read("i * p / n"),
			Local:  read("i - (i * p / n * n + p - 1) / p"),
			Global: read("(l * n + p - 1) / p + k"),
			Count:  read("((l + 1) * n + p - 1) / p - (l * n + p - 1) / p"),
		}, api.OK
	case m.Kind == api.Cyclic:
		return Scheme{
			Owner:  read("i % p"),
			Local:  read("i / p"),
			Global: read("k * p + l"),
			Count:  read("(n - l + p - 1) / p"),
		}, api.OK
	case m.Kind == api.BlockCyclic && m.Size >= 1 && m.Size <= maxBlock:
		return blockCyclic(m.Size), api.OK
	}
	return Scheme{}, api.ErrArgument
}

// blockCyclic returns the scheme of BlockCyclic with a size of blocks.
func blockCyclic(size int) Scheme {
	sized := func(text string) api.Node {
		return read(strings.ReplaceAll(text, "S", strconv.Itoa(size)))
	}
	// What is behind the last round of full blocks gives a locale nothing, a full block, or the rest.
	last := cond(sized("n % (S * p) - l * S < 0"), read("0"),
		cond(sized("n % (S * p) - l * S > S"), sized("S"), sized("n % (S * p) - l * S")))
	return Scheme{
		Owner:  sized("i / S % p"),
		Local:  sized("i / (S * p) * S + i % S"),
		Global: sized("k / S * (S * p) + l * S + k % S"),
		Count:  binary("+", sized("n / (S * p) * S"), last),
	}
}

func cond(condition, yes, no api.Node) api.Node {
	return api.Node{Op: api.Cond, Kids: []api.Node{condition, yes, no}}
}

func binary(sign string, left, right api.Node) api.Node {
	return api.Node{Op: api.Binary, Name: sign, Kids: []api.Node{left, right}}
}

// reader has the words of a formula that are still to be read.
type reader struct{ words []string }

// read returns a formula that is written as usual, without Unary and Cond: signs stand between spaces.
func read(text string) api.Node {
	text = strings.ReplaceAll(strings.ReplaceAll(text, "(", "( "), ")", " )")
	r := reader{words: strings.Fields(text)}
	return r.grouped(0)
}

// next takes the next word.
func (r *reader) next() string {
	word := r.words[0]
	r.words = r.words[1:]
	return word
}

// grouped reads a formula of signs that bind as tight as those of a level, or tighter, grouped from the left.
func (r *reader) grouped(level int) api.Node {
	levels := [...]string{"< >", "+ -", "* / %"}
	if level == len(levels) {
		return r.operand()
	}
	left := r.grouped(level + 1)
	for len(r.words) > 0 && slices.Contains(strings.Fields(levels[level]), r.words[0]) {
		sign := r.next()
		left = binary(sign, left, r.grouped(level+1))
	}
	return left
}

// operand reads a number, a name, or a formula in parentheses.
func (r *reader) operand() api.Node {
	word := r.next()
	if word == "(" {
		inner := r.grouped(0)
		r.next()
		return inner
	}
	if n, err := strconv.Atoi(word); err == nil {
		return api.Node{Op: api.Int, Num: n}
	}
	return api.Node{Op: api.Name, Name: word}
}
