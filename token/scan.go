package token

import (
	"iter"
	"math"
	"strings"

	"raddle/api"
)

// tokens yields the tokens of a text in order; what is none comes last, with its error and its place.
func tokens(text string) iter.Seq2[Token, api.Errno] {
	return func(yield func(Token, api.Errno) bool) {
		for at := 0; at < len(text); {
			n, e := gap(text[at:])
			if e == api.OK && n > 0 {
				at += n
				continue
			}
			t := Token{}
			if e == api.OK {
				t, n, e = read(text[at:])
			}
			t.At = at
			if !yield(t, e) || e != api.OK {
				return
			}
			at += n
		}
	}
}

// gap returns the length of the white space or the comment with which a text begins, 0 without any.
func gap(text string) (int, api.Errno) {
	switch {
	case strings.HasPrefix(text, "//"):
		if n := strings.IndexByte(text, '\n'); n >= 0 {
			return n, api.OK
		}
		return len(text), api.OK
	case strings.HasPrefix(text, "/*"):
		return comment(text)
	}
	return len(text) - len(strings.TrimLeft(text, " \t\n\r")), api.OK
}

// comment returns the length of a comment that begins with /* and may have others in it.
func comment(text string) (int, api.Errno) {
	open, at := 0, 0
nested:
	for {
		switch rest := text[at:]; {
		case rest == "":
			return 0, ErrComment
		case strings.HasPrefix(rest, "/*"):
			open++
			at += 2
		case strings.HasPrefix(rest, "*/"):
			open--
			at += 2
			if open == 0 {
				break nested
			}
		default:
			at++
		}
	}
	return at, api.OK
}

// read returns the token with which a text begins, and its length.
func read(text string) (Token, int, api.Errno) {
	c := text[0]
	switch {
	case isLetter(c):
		return word(text)
	case isDigit(c):
		return number(text)
	case c == '"':
		return quoted(text)
	}
	if n := signLength(text); n > 0 {
		return Token{Kind: Sign, Text: text[:n]}, n, api.OK
	}
	return Token{}, 0, ErrByte
}

func isLetter(c byte) bool {
	return c >= 'a' && c <= 'z' || c >= 'A' && c <= 'Z' || c == '_'
}

func isDigit(c byte) bool { return c >= '0' && c <= '9' }

// wordLength returns the length of the word with which a text begins, 0 without one.
func wordLength(text string) int {
	n := 0
	for n < len(text) && (isLetter(text[n]) || n > 0 && isDigit(text[n])) {
		n++
	}
	return n
}

func word(text string) (Token, int, api.Errno) {
	n := wordLength(text)
	switch {
	case n > api.MaxName:
		return Token{}, 0, ErrName
	case isKeyword(text[:n]):
		return Token{Kind: Keyword, Text: text[:n]}, n, api.OK
	}
	return Token{Kind: Name, Text: text[:n]}, n, api.OK
}

func number(text string) (Token, int, api.Errno) {
	n, value := 0, 0
	for ; n < len(text) && isDigit(text[n]); n++ {
		digit := int(text[n] - '0')
		if n > 0 && value == 0 || value > (math.MaxInt-digit)/10 {
			return Token{}, 0, ErrNumber
		}
		value = 10*value + digit
	}
	if n < len(text) && isLetter(text[n]) {
		return Token{}, 0, ErrNumber
	}
	return Token{Kind: Number, Text: text[:n], Value: value}, n, api.OK
}

// quoted returns the string with which a text begins.
func quoted(text string) (Token, int, api.Errno) {
	var means []byte
	for at := 1; at < len(text); {
		switch c := text[at]; {
		case c == '"':
			return Token{Kind: String, Text: string(means)}, at + 1, api.OK
		case c == '\\':
			b, n := escape(text[at+1:])
			if n == 0 {
				return Token{}, 0, ErrString
			}
			means = append(means, b)
			at += 1 + n
		case c < 32 || c > 126:
			return Token{}, 0, ErrString
		default:
			means = append(means, c)
			at++
		}
	}
	return Token{}, 0, ErrString
}

// escape returns the byte that an escape means, and the length of what stands behind the backslash, 0 for no escape.
func escape(text string) (byte, int) {
	if text == "" {
		return 0, 0
	}
	switch text[0] {
	case '\\', '"':
		return text[0], 1
	case 'n':
		return '\n', 1
	case 't':
		return '\t', 1
	}
	if text[0] != 'x' || len(text) < 3 {
		return 0, 0
	}
	high, low := hexadecimal(text[1]), hexadecimal(text[2])
	if high < 0 || low < 0 {
		return 0, 0
	}
	return byte(16*high + low), 3
}

// hexadecimal returns the value of a hexadecimal digit, -1 for another byte.
func hexadecimal(c byte) int {
	switch {
	case isDigit(c):
		return int(c - '0')
	case c >= 'a' && c <= 'f':
		return int(c-'a') + 10
	case c >= 'A' && c <= 'F':
		return int(c-'A') + 10
	}
	return -1
}

// quote returns the text of a string.
func quote(s string) string {
	const digits = "0123456789abcdef"
	text := []byte{'"'}
	for i := range len(s) {
		switch c := s[i]; {
		case c == '"' || c == '\\':
			text = append(text, '\\', c)
		case c == '\n':
			text = append(text, '\\', 'n')
		case c == '\t':
			text = append(text, '\\', 't')
		case c < 32 || c > 126:
			text = append(text, '\\', 'x', digits[c>>4], digits[c&15])
		default:
			text = append(text, c)
		}
	}
	return string(append(text, '"'))
}
