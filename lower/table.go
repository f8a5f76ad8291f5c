package lower

import "raddle/api"

// none is what stands in a field for no register.
const none = -1

// What a field of an instruction may have.
const (
	isWritten     = 'w' // a register, which is written
	mayBeWritten  = 'W' // or none
	isRead        = 'r' // a register, which is read
	mayBeRead     = 'R' // or none
	anyNumber     = 'n'
	aGlobal       = 'g'
	aBody         = 'b'
	anInstruction = 'i'
	aDimension    = 'd' // 0 or 1
	aMapKind      = 'k'
)

// How many elements the List of an instruction has.
const (
	noList       = iota
	oneElement   // just one
	indices      // one or two
	arguments    // as many as the body has arguments
	operands     // as many as the operation of an atomic variable takes
	placeholders // as many as the Text has bytes 0
)

// format is the form of the instructions with an Op: the word in texts, a letter for each of the fields A to D (- for one that is 0), the Texts (with spaces between), and the List.
type format struct {
	word, fields, texts string
	list                int
}

// formatOf returns the format of an Op; of one that is none a format without a word.
func formatOf(op int) format {
	if op < api.OpSet || op > api.OpAssert {
		return format{fields: "----"}
	}
	return [...]format{
		api.OpSet:     {"set", "wn--", "", noList},
		api.OpCopy:    {"copy", "wr--", "", noList},
		api.OpUnary:   {"unary", "wr--", "- !", noList},
		api.OpBinary:  {"binary", "wrr-", "+ - * / % == != < <= > >= min max && ||", noList},
		api.OpGet:     {"get", "wg--", "", noList},
		api.OpPut:     {"put", "gr--", "", noList},
		api.OpRange:   {"range", "wrr-", "", noList},
		api.OpBy:      {"by", "wrr-", "", noList},
		api.OpCount:   {"count", "wrr-", "", noList},
		api.OpDomain:  {"domain", "w---", "", indices},
		api.OpMap:     {"map", "wrkR", "", noList},
		api.OpArray:   {"array", "wr--", "", noList},
		api.OpCell:    {"cell", "w---", "", noList},
		api.OpAtomic:  {"atomic", "w---", "", noList},
		api.OpField:   {"field", "wr--", "size low high stride domain", noList},
		api.OpNth:     {"nth", "wrdr", "", noList},
		api.OpLoad:    {"load", "wr--", "", indices},
		api.OpStore:   {"store", "rr--", "", indices},
		api.OpJump:    {"jump", "--i-", "", noList},
		api.OpIf:      {"if", "r-i-", "", noList},
		api.OpCall:    {"call", "Wb--", "", arguments},
		api.OpReturn:  {"return", "R---", "", noList},
		api.OpHere:    {"here", "w---", "", noList},
		api.OpLocales: {"locales", "w---", "", noList},
		api.OpGo:      {"go", "r---", "", noList},
		api.OpCounter: {"counter", "w---", "", noList},
		api.OpSpawn:   {"spawn", "Rb--", "", arguments},
		api.OpWait:    {"wait", "r---", "", noList},
		api.OpScope:   {"scope", "w---", "", noList},
		api.OpUnscope: {"unscope", "----", "", noList},
		api.OpPieces:  {"pieces", "wr--", "", noList},
		api.OpPiece:   {"piece", "wrdr", "", noList},
		api.OpInPiece: {"inpiece", "wrdr", "", oneElement},
		api.OpOnCell:  {"oncell", "WrR-", cellOperations, noList},
		api.OpOnAtom:  {"onatom", "Wr--", atomOperations, operands},
		api.OpWrite:   {"write", "----", "", placeholders},
		api.OpAssert:  {"assert", "r---", "", noList},
	}[op]
}

// The operations of cells and of atomic variables, and those of both that give something.
const (
	cellOperations = "readFE readFF readXX isFull reset writeEF writeFF writeXF"
	atomOperations = "read write add fetchAdd exchange compareAndSwap"
	giving         = "readFE readFF readXX isFull read fetchAdd exchange compareAndSwap"
)

// fields returns the fields of an instruction for which a format has letters.
func fields(i api.Ins) [4]int { return [4]int{i.A, i.B, i.C, i.D} }
