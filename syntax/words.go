package syntax

import (
	"slices"
	"strings"
)

const (
	fieldWords  = "size low high stride domain"
	methodWords = "readFE readFF readXX writeEF writeFF writeXF reset isFull read write add fetchAdd exchange compareAndSwap"
	basicWords  = "int bool range sync atomic void" // types of one word
	basicNames  = basicWords + " domain1 domain2 array1 array2"
	reduceWords = "+ * min max && ||"
	assignWords = "= += -= *="
	mapWords    = "block cyclic hashed"
)

// levels has the operators of binary expressions by their levels.
func levels() [prefixLevel][]string {
	return [prefixLevel][]string{
		1:          {"||"},
		2:          {"&&"},
		3:          {"==", "!="},
		4:          {"<", "<=", ">", ">="},
		byLevel:    {"by", "#", "dmapped"},
		rangeLevel: {".."},
		sumLevel:   {"+", "-"},
		8:          {"*", "/", "%"},
	}
}

// Levels of operators that have rules of their own.
const (
	byLevel      = 5
	rangeLevel   = 6
	sumLevel     = 7
	prefixLevel  = 9
	postfixLevel = 10
)

// isOne reports whether a word is one of those that a text has, with spaces between.
func isOne(word, words string) bool { return slices.Contains(strings.Fields(words), word) }

func isField(name string) bool  { return isOne(name, fieldWords) }
func isMethod(name string) bool { return isOne(name, methodWords) }
