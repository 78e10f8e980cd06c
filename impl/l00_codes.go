package impl

const (
	MaxText = 65536
	MaxList = 4096
)

// The table of codes counts from 0 on without a gap, and the words stand by it.
const (
	OK = iota
	ErrBad
	ErrLong
	ErrForm
	ErrSyntax
	ErrName
	ErrTwice
	ErrNone
	ErrLoop
	ErrRange
	ErrMany
	ErrZero
	ErrFail
	ErrFuel
	ErrState
	ErrRight
	ErrQuota
	ErrStuck
	ErrDeep
	ErrKind
)

// codeWords answers an array, so that each caller has a table of its own.
func codeWords() [ErrKind + 1]string {
	return [ErrKind + 1]string{
		OK:        "ok",
		ErrBad:    "bad",
		ErrLong:   "long",
		ErrForm:   "form",
		ErrSyntax: "syntax",
		ErrName:   "name",
		ErrTwice:  "twice",
		ErrNone:   "none",
		ErrLoop:   "loop",
		ErrRange:  "range",
		ErrMany:   "many",
		ErrZero:   "zero",
		ErrFail:   "fail",
		ErrFuel:   "fuel",
		ErrState:  "state",
		ErrRight:  "right",
		ErrQuota:  "quota",
		ErrStuck:  "stuck",
		ErrDeep:   "deep",
		ErrKind:   "kind",
	}
}

func CodeWord(code int) string {
	words := codeWords()
	if code < 0 || code >= len(words) {
		return ""
	}
	return words[code]
}

func CodeOf(word string) int {
	for code, known := range codeWords() {
		if known == word {
			return code
		}
	}
	return -1
}
