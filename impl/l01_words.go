package impl

import (
	"strings"
	"unicode/utf8"
)

const (
	MaxName   = 40
	MaxTokens = 20000
)

const (
	TkName = iota + 1
	TkNum
	TkText
	TkSign
)

const (
	maxDigits = 18
	hexDigits = "0123456789abcdef"
)

type Token struct {
	Kind          int
	Text          string
	Num           int
	At, Line, Col int
}

func RuneAt(t string, at int) (int, int) {
	if len(t) > MaxText || at < 0 || at >= len(t) {
		return 0, 0
	}
	r, size := utf8.DecodeRuneInString(t[at:])
	return int(r), size
}

// isWrong asks for the size too: the encoding of 65533 itself is right and has three bytes.
func isWrong(r, size int) bool { return r == utf8.RuneError && size == 1 }

func isWrongAt(t string, at int) bool { return isWrong(RuneAt(t, at)) }

func isBetween(r, low, high int) bool { return low <= r && r <= high }

func isDigit(r int) bool { return isBetween(r, '0', '9') }

func isBlank(r int) bool { return r == ' ' || r == '\t' || r == '\n' || r == '\r' }

func isNameRune(r int) bool { return IsLetter(r) || isDigit(r) }

func IsLetter(r int) bool {
	switch {
	case isBetween(r, 'a', 'z'), isBetween(r, 'A', 'Z'), r == '_':
		return true
	case isBetween(r, 192, 591):
		return r != 215 && r != 247
	case isBetween(r, 913, 937):
		return r != 930
	}
	return isBetween(r, 945, 969) || isBetween(r, 1040, 1103)
}

func isReserved(word string) bool {
	switch word {
	case "package", "import", "const", "var", "func", "init", "stop", "set", "emit", "fail", "when":
		return true
	}
	return false
}

// runEnd stops at a wrong byte of itself: it is the rune 65533, which is neither letter nor digit.
func runEnd(t string, at int, belongs func(r int) bool) int {
	for i, r := range t[at:] {
		if !belongs(int(r)) {
			return at + i
		}
	}
	return len(t)
}

func NameOK(t string) bool {
	if len(t) == 0 || len(t) > MaxName || isReserved(t) {
		return false
	}
	first, _ := RuneAt(t, 0)
	return IsLetter(first) && runEnd(t, 0, isNameRune) == len(t)
}

type scanner struct {
	text      string
	at        int
	line, col int
	list      []Token
}

func Tokens(t string) ([]Token, int, int) {
	if len(t) > MaxText {
		return nil, ErrLong, 0
	}
	s := scanner{text: t, line: 1, col: 1}
	code, place := s.scan()
	if code != OK {
		return nil, code, place
	}
	return s.list, OK, 0
}

// scan asks in the order in which faults count: a wrong byte, then one lexeme too many, then what begins none.
func (s *scanner) scan() (int, int) {
	var code, place int
lexemes:
	for s.at < len(s.text) {
		r, size := RuneAt(s.text, s.at)
		switch {
		case isBlank(r):
			s.pass(s.at + size)
			continue lexemes
		case strings.HasPrefix(s.text[s.at:], "//"):
			goto remark
		case isWrong(r, size):
			return ErrForm, s.at
		case len(s.list) == MaxTokens:
			return ErrMany, s.at
		case IsLetter(r):
			goto name
		case isDigit(r):
			goto number
		case r == '"':
			goto text
		}
		code, place = s.sign()
		goto told
	remark:
		code, place = s.remark()
		goto told
	name:
		code, place = s.name()
		goto told
	number:
		code, place = s.number()
		goto told
	text:
		code, place = s.quoted()
	told:
		if code != OK {
			return code, place
		}
	}
	return OK, 0
}

func (s *scanner) pass(end int) {
	for _, r := range s.text[s.at:end] {
		s.col++
		if r == '\n' {
			s.line++
			s.col = 1
		}
	}
	s.at = end
}

// add copies the text, so that no lexeme shares memory with what was handed in.
func (s *scanner) add(kind int, text string, num, end int) {
	token := Token{Kind: kind, Text: strings.Clone(text), Num: num, At: s.at, Line: s.line, Col: s.col}
	s.list = append(s.list, token)
	s.pass(end)
}

func (s *scanner) remark() (int, int) {
	for i, r := range s.text[s.at:] {
		if r == '\n' {
			s.pass(s.at + i)
			return OK, 0
		}
		if isWrongAt(s.text, s.at+i) {
			return ErrForm, s.at + i
		}
	}
	s.pass(len(s.text))
	return OK, 0
}

func (s *scanner) name() (int, int) {
	end := runEnd(s.text, s.at, isNameRune)
	if end-s.at > MaxName {
		return ErrLong, s.at
	}
	s.add(TkName, s.text[s.at:end], 0, end)
	return OK, 0
}

func (s *scanner) number() (int, int) {
	end := runEnd(s.text, s.at, isDigit)
	digits := s.text[s.at:end]
	behind, _ := RuneAt(s.text, end)
	switch {
	case len(digits) > maxDigits:
		return ErrRange, s.at
	case len(digits) > 1 && digits[0] == '0':
		return ErrSyntax, s.at
	case IsLetter(behind):
		return ErrSyntax, end
	}
	s.add(TkNum, digits, valueOf(digits), end)
	return OK, 0
}

// valueOf cannot overflow: a number has at most maxDigits digits.
func valueOf(digits string) int {
	value := 0
	for _, r := range digits {
		value = value*10 + int(r-'0')
	}
	return value
}

// numberOf reads a number's text as the document's first chapter tells it, with its sign.
func numberOf(text string) (int, bool) {
	digits, isBelow := strings.CutPrefix(text, "-")
	switch {
	case digits == "", len(digits) > maxDigits, runEnd(digits, 0, isDigit) < len(digits):
		return 0, false
	case digits[0] == '0' && text != "0":
		return 0, false
	case isBelow:
		return -valueOf(digits), true
	}
	return valueOf(digits), true
}

func (s *scanner) quoted() (int, int) {
	text, code, place := readText(s.text, s.at)
	if code != OK {
		return code, place
	}
	s.add(TkText, text, 0, place)
	return OK, 0
}

func (s *scanner) sign() (int, int) {
	size := signSize(s.text, s.at)
	if size == 0 {
		return ErrSyntax, s.at
	}
	s.add(TkSign, s.text[s.at:s.at+size], 0, s.at+size)
	return OK, 0
}

func signSize(t string, at int) int {
	switch t[at] {
	case '=', '!', '<':
		if at+1 < len(t) && t[at+1] == '=' {
			return 2
		}
		fallthrough
	case '(', ')', '{', '}', ',', ';', '.', '+', '-', '*', '/', '%':
		return 1
	}
	return 0
}

// readText answers what the lexeme at a place stands for, a code, and the place behind it or, with a code, that of the fault.
func readText(t string, at int) (string, int, int) {
	var out []byte
	end := at + 1
	for end < len(t) && t[end] != '"' {
		r, size := RuneAt(t, end)
		switch {
		case r < ' ':
			return "", ErrSyntax, at
		case isWrong(r, size):
			return "", ErrForm, end
		case r == '\\':
			value, length := escapeAt(t, end)
			if length == 0 {
				return "", ErrSyntax, end
			}
			out = append(out, value)
			end += length
		default:
			out = append(out, t[end:end+size]...)
			end += size
		}
	}
	if end == len(t) {
		return "", ErrSyntax, at
	}
	return string(out), OK, end + 1
}

// escapeAt answers a length of 0 for what is no escape.
func escapeAt(t string, at int) (byte, int) {
	if at+1 >= len(t) {
		return 0, 0
	}
	switch sign := t[at+1]; sign {
	case 'n':
		return '\n', 2
	case '"':
		fallthrough
	case '\\':
		return sign, 2
	case 'x':
		high, low := hexAt(t, at+2), hexAt(t, at+3)
		if high >= 0 && low >= 0 {
			return byte(high*16 + low), 4
		}
	}
	return 0, 0
}

func hexAt(t string, at int) int {
	if at >= len(t) {
		return -1
	}
	return strings.IndexByte(hexDigits, t[at])
}

func Quote(t string) string {
	if len(t) > MaxText {
		return ""
	}
	out := []byte{'"'}
	for i, r := range t {
		switch {
		case r == '\n':
			out = append(out, '\\', 'n')
		case r == '"':
			fallthrough
		case r == '\\':
			out = append(out, '\\', t[i])
		case r < ' ', r == 127, isWrongAt(t, i):
			out = append(out, '\\', 'x', hexDigits[t[i]/16], hexDigits[t[i]%16])
		default:
			out = utf8.AppendRune(out, r)
		}
	}
	return string(append(out, '"'))
}

func Unquote(t string) (string, bool) {
	if len(t) == 0 || len(t) > MaxText || t[0] != '"' {
		return "", false
	}
	text, code, end := readText(t, 0)
	if code != OK || end != len(t) {
		return "", false
	}
	return text, true
}

func isCapital(r int) bool {
	switch {
	case isBetween(r, 'A', 'Z'), isBetween(r, 1040, 1071):
		return true
	case isBetween(r, 192, 222):
		return r != 215
	}
	return isBetween(r, 913, 937) && r != 930
}

// Fold writes over a copy: a folded rune has as many bytes as the one it comes from.
func Fold(t string) string {
	if len(t) > MaxText {
		return ""
	}
	out := []byte(t)
	for i, r := range t {
		if isCapital(int(r)) {
			utf8.EncodeRune(out[i:], r+32)
		}
	}
	return string(out)
}
