package lifetime

import (
	"slices"
	"strconv"
	"strings"
)

// sharedCopies returns the Copies of shared variables in statements, in the order of the form.
func sharedCopies(p Program, l []Stmt) []*Stmt {
	var all []*Stmt
	for i := range l {
		s := &l[i]
		if s.Op == Copy && p.Vars[s.A].Kind == Shared {
			all = append(all, s)
		}
		all = append(all, sharedCopies(p, s.Kids)...)
		all = append(all, sharedCopies(p, s.Else)...)
	}
	return all
}

// cloned returns statements in memory of their own.
func cloned(l []Stmt) []Stmt {
	l = slices.Clone(l)
	for i := range l {
		l[i].Kids, l[i].Else = cloned(l[i].Kids), cloned(l[i].Else)
	}
	return l
}

// text returns the text of a program of the right form.
func text(p Program) string {
	b := &strings.Builder{}
	for i, l := range p.Classes {
		words := []string{"class", strconv.Itoa(i)}
		for _, f := range l {
			words = append(words, kindName(f.Kind), strconv.Itoa(f.Class))
		}
		line(b, 0, words)
	}
	for i, v := range p.Vars {
		words := []string{"var", strconv.Itoa(i), kindName(v.Kind), strconv.Itoa(v.Class)}
		if v.Nilable {
			words = append(words, "nilable")
		}
		line(b, 0, words)
	}
	blockText(b, p.Body, 0)
	return b.String()
}

// line writes a line of words that stands in so many others.
func line(b *strings.Builder, within int, words []string) {
	b.WriteString(strings.Repeat("  ", within) + strings.Join(words, " ") + "\n")
}

func blockText(b *strings.Builder, l []Stmt, within int) {
	for _, s := range l {
		words := []string{opName(s.Op)}
		for _, letter := range used(s.Op) {
			switch letter {
			case 'A':
				words = append(words, strconv.Itoa(s.A))
			case 'B':
				words = append(words, strconv.Itoa(s.B))
			case 'F':
				words = append(words, strconv.Itoa(s.F))
			}
		}
		line(b, within, words)
		blockText(b, s.Kids, within+1)
		if len(s.Else) > 0 {
			line(b, within, []string{"else"})
			blockText(b, s.Else, within+1)
		}
	}
}

func kindName(kind int) string {
	return strings.Fields("owned shared borrowed unmanaged")[kind-1]
}

func opName(op int) string {
	return strings.Fields("scope new move copy borrow load store take clear free use test either loop")[op-1]
}
