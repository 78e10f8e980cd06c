package tests

import (
	"reflect"
	"regexp"
	"strconv"
	"strings"
	"testing"
	"unsafe"

	"loop.example/g00045/impl"
)

const letterClass = `a-zA-Z_\x{C0}-\x{D6}\x{D8}-\x{F6}\x{F8}-\x{24F}\x{391}-\x{3A1}\x{3A3}-\x{3A9}\x{3B1}-\x{3C9}\x{410}-\x{44F}`

var (
	blankForm  = regexp.MustCompile(`^[ \t\n\r]+`)
	remarkForm = regexp.MustCompile(`^//[^\n]*`)
	nameForm   = regexp.MustCompile(`^[` + letterClass + `][` + letterClass + `0-9]*`)
	numberForm = regexp.MustCompile(`^[0-9]+`)
	letterForm = regexp.MustCompile(`^[` + letterClass + `]`)
	innerForm  = regexp.MustCompile(`^"(?:[^"\\\x00-\x1f]|\\[n"\\]|\\x[0-9a-f][0-9a-f])*`)
	escapeForm = regexp.MustCompile(`\\(?:[n"\\]|x[0-9a-f][0-9a-f])`)
	signForm   = regexp.MustCompile(`^(?:==|!=|<=|[(){},;.=<+\-*/%!])`)
)

// firstWrong: the place of the first byte that is no part of a right encoding, or -1.
func firstWrong(text string) int {
	for at := 0; at < len(text); {
		r, n := wantRune(text, at)
		if r == 65533 && n == 1 {
			return at
		}
		at += n
	}
	return -1
}

// standsFor puts the bytes in the places of the escapes of a text's lexeme.
func standsFor(lexeme string) string {
	return escapeForm.ReplaceAllStringFunc(lexeme[1:len(lexeme)-1], func(escape string) string {
		switch escape[1] {
		case 'n':
			return "\n"
		case 'x':
			value, _ := strconv.ParseUint(escape[2:], 16, 8)
			return string([]byte{byte(value)})
		}
		return escape[1:]
	})
}

// placed fills in At, Line and Col from the text ahead.
func placed(token impl.Token, text string, at int) impl.Token {
	ahead := text[:at]
	token.At, token.Line = at, 1+strings.Count(ahead, "\n")
	token.Col = 1 + len([]rune(ahead[strings.LastIndexByte(ahead, '\n')+1:]))
	return token
}

// wantLexeme: the lexeme at the beginning of rest and its length; or a code and how far on its place is.
func wantLexeme(rest string) (impl.Token, int, int, int) {
	if name := nameForm.FindString(rest); name != "" {
		if len(name) > impl.MaxName {
			return impl.Token{}, 0, impl.ErrLong, 0
		}
		return impl.Token{Kind: impl.TkName, Text: name}, len(name), impl.OK, 0
	}
	if digits := numberForm.FindString(rest); digits != "" {
		switch {
		case len(digits) > 18:
			return impl.Token{}, 0, impl.ErrRange, 0
		case strings.HasPrefix(digits, "0") && digits != "0":
			return impl.Token{}, 0, impl.ErrSyntax, 0
		case letterForm.MatchString(rest[len(digits):]):
			return impl.Token{}, 0, impl.ErrSyntax, len(digits)
		}
		value, _ := strconv.Atoi(digits)
		return impl.Token{Kind: impl.TkNum, Text: digits, Num: value}, len(digits), impl.OK, 0
	}
	if inner := innerForm.FindString(rest); inner != "" {
		behind := rest[len(inner):]
		switch wrong := firstWrong(inner); {
		case wrong >= 0:
			return impl.Token{}, 0, impl.ErrForm, wrong
		case strings.HasPrefix(behind, `\`):
			return impl.Token{}, 0, impl.ErrSyntax, len(inner)
		case !strings.HasPrefix(behind, `"`):
			return impl.Token{}, 0, impl.ErrSyntax, 0
		}
		return impl.Token{Kind: impl.TkText, Text: standsFor(inner + `"`)}, len(inner) + 1, impl.OK, 0
	}
	if sign := signForm.FindString(rest); sign != "" {
		return impl.Token{Kind: impl.TkSign, Text: sign}, len(sign), impl.OK, 0
	}
	return impl.Token{}, 0, impl.ErrSyntax, 0
}

// wantTokens is Tokens told by patterns in the place of a scanner.
func wantTokens(text string) ([]impl.Token, int, int) {
	var list []impl.Token
	for at := 0; at < len(text); {
		rest := text[at:]
		if blank := blankForm.FindString(rest); blank != "" {
			at += len(blank)
			continue
		}
		if remark := remarkForm.FindString(rest); remark != "" {
			if wrong := firstWrong(remark); wrong >= 0 {
				return nil, impl.ErrForm, at + wrong
			}
			at += len(remark)
			continue
		}
		if firstWrong(rest) == 0 {
			return nil, impl.ErrForm, at
		}
		if len(list) == impl.MaxTokens {
			return nil, impl.ErrMany, at
		}
		token, size, code, further := wantLexeme(rest)
		if code != impl.OK {
			return nil, code, at + further
		}
		list = append(list, placed(token, text, at))
		at += size
	}
	return list, impl.OK, 0
}

func checkTokens(t *testing.T, text string) {
	t.Helper()
	wantList, wantCode, wantPlace := wantTokens(text)
	list, code, place := impl.Tokens(text)
	if code != wantCode || place != wantPlace || len(list) != len(wantList) || len(list) > 0 && !reflect.DeepEqual(list, wantList) {
		t.Fatalf("Tokens(%q) = %v, %d at %d; not %v, %d at %d", text, list, code, place, wantList, wantCode, wantPlace)
	}
}

// again writes lexemes one behind the other with line ends between.
func again(list []impl.Token) string {
	lines := make([]string, len(list))
	for i, token := range list {
		lines[i] = token.Text
		if token.Kind == impl.TkText {
			lines[i] = impl.Quote(token.Text)
		}
	}
	return strings.Join(lines, "\n")
}

func checkAgain(t *testing.T, list []impl.Token) {
	t.Helper()
	text := again(list)
	second, code, place := impl.Tokens(text)
	if code != impl.OK || len(second) != len(list) {
		t.Fatalf("written again %q: %d at %d", text, code, place)
	}
	for i, token := range second {
		first := list[i]
		if token.Kind != first.Kind || token.Text != first.Text || token.Num != first.Num || token.Line != i+1 || token.Col != 1 {
			t.Fatalf("written again %q: %v, not %v", text, token, first)
		}
	}
}

func TestTokensOfEachKind(t *testing.T) {
	type lexeme struct {
		text string
		want impl.Token
	}
	cases := []lexeme{
		{"a", impl.Token{Kind: impl.TkName, Text: "a"}}, {"_1", impl.Token{Kind: impl.TkName, Text: "_1"}}, {"größe9", impl.Token{Kind: impl.TkName, Text: "größe9"}}, {"Жλ", impl.Token{Kind: impl.TkName, Text: "Жλ"}},
		{"0", impl.Token{Kind: impl.TkNum, Text: "0"}}, {"10", impl.Token{Kind: impl.TkNum, Text: "10", Num: 10}}, {"999999999999999999", impl.Token{Kind: impl.TkNum, Text: "999999999999999999", Num: 999999999999999999}},
		{`""`, impl.Token{Kind: impl.TkText}}, {`"a b"`, impl.Token{Kind: impl.TkText, Text: "a b"}}, {`"\x00\xff\n\"\\"`, impl.Token{Kind: impl.TkText, Text: "\x00\xff\n\"\\"}}, {"\"\x7fж\xef\xbf\xbd\"", impl.Token{Kind: impl.TkText, Text: "\x7fж\xef\xbf\xbd"}}, {`"12//"`, impl.Token{Kind: impl.TkText, Text: "12//"}},
	}
	for _, word := range reservedWords {
		cases = append(cases, lexeme{word, impl.Token{Kind: impl.TkName, Text: word}})
	}
	for _, sign := range strings.Fields("( ) { } , ; . = == != < <= + - * / % !") {
		cases = append(cases, lexeme{sign, impl.Token{Kind: impl.TkSign, Text: sign}})
	}
	for _, c := range cases {
		c.want.At, c.want.Line, c.want.Col = 0, 1, 1
		for again := 0; again < 2; again++ {
			list, code, place := impl.Tokens(c.text)
			if code != impl.OK || place != 0 || len(list) != 1 || list[0] != c.want {
				t.Errorf("Tokens(%q) = %v, %d at %d", c.text, list, code, place)
			}
		}
		c.want.At, c.want.Line, c.want.Col = 7, 2, 5
		list, code, _ := impl.Tokens("(\n\tж\r " + c.text + " )")
		if code != impl.OK || len(list) != 4 || list[2] != c.want {
			t.Errorf("Tokens(.. %q ..) = %v, %d", c.text, list, code)
		}
	}
}

// spelled tells lexemes' own words, a text's in quotes.
func spelled(list []impl.Token) string {
	var words []string
	for _, token := range list {
		word := token.Text
		if token.Kind == impl.TkText {
			word = `"` + word + `"`
		}
		words = append(words, word)
	}
	return strings.Join(words, " ")
}

func TestTokensWhatEndsALexeme(t *testing.T) {
	cases := [][2]string{
		{"", ""}, {" \t\r\n", ""}, {"//", ""}, {"// x", ""}, {"//\n", ""}, {"a//b\nc", "a c"}, {"a///b", "a"}, {"a/ /b", "a / / b"}, {"a/b", "a / b"}, {"1//2", "1"}, {"/", "/"}, {"=//", "="},
		{"===", "== ="}, {"====", "== =="}, {"!==", "!= ="}, {"!!=", "! !="}, {"<==", "<= ="}, {"<<=", "< <="}, {"=!=", "= !="}, {"=<=", "= <="}, {"= =", "= ="}, {"< =", "< ="}, {"! =", "! ="}, {"<-", "< -"}, {"!<", "! <"}, {"=!", "= !"}, {"a=", "a ="}, {"a!", "a !"}, {"a<", "a <"},
		{"a1b2", "a1b2"}, {"a.b", "a . b"}, {"1.2", "1 . 2"}, {"-1", "- 1"}, {"1-2", "1 - 2"}, {"a-b", "a - b"}, {"a\tb\rc\nd", "a b c d"}, {"1\n2", "1 2"}, {"0 0", "0 0"}, {"0.0", "0 . 0"},
		{`a"b"c`, `a "b" c`}, {`1"b"2`, `1 "b" 2`}, {`"a""b"`, `"a" "b"`}, {`"a"1`, `"a" 1`}, {`"a"//"b"`, `"a"`}, {"//\"\n1", "1"}, {"// \x01\x7f\r\tж\xef\xbf\xbd @ \\\n1", "1"}, {"a(b,c);{}", "a ( b , c ) ; { }"}, {"x%y*z+w", "x % y * z + w"},
	}
	for _, c := range cases {
		list, code, place := impl.Tokens(c[0])
		if code != impl.OK || place != 0 || spelled(list) != c[1] {
			t.Errorf("Tokens(%q) = %s, %d at %d, not %s", c[0], spelled(list), code, place, c[1])
		}
		checkTokens(t, c[0])
		checkAgain(t, list)
	}
}

func TestTokensPlaces(t *testing.T) {
	list, code, _ := impl.Tokens("жук <= \"ж\\n\" // ж\r\n\t\"\xef\xbf\xbd\"x\n\n 7")
	want := []impl.Token{
		{Kind: impl.TkName, Text: "жук", At: 0, Line: 1, Col: 1},
		{Kind: impl.TkSign, Text: "<=", At: 7, Line: 1, Col: 5},
		{Kind: impl.TkText, Text: "ж\n", At: 10, Line: 1, Col: 8},
		{Kind: impl.TkText, Text: "\xef\xbf\xbd", At: 25, Line: 2, Col: 2},
		{Kind: impl.TkName, Text: "x", At: 30, Line: 2, Col: 5},
		{Kind: impl.TkNum, Text: "7", Num: 7, At: 34, Line: 4, Col: 2},
	}
	if code != impl.OK || !reflect.DeepEqual(list, want) {
		t.Errorf("%v, %d", list, code)
	}
}

func TestTokensFaults(t *testing.T) {
	long := strings.Repeat("a", impl.MaxName)
	digits := strings.Repeat("1", 18)
	noughts := strings.Repeat("0", 18)
	cases := []struct {
		text        string
		code, place int
	}{
		{long, impl.OK, 0}, {long + "a", impl.ErrLong, 0}, {"(" + long + "1", impl.ErrLong, 1}, {strings.Repeat("ж", 20), impl.OK, 0}, {strings.Repeat("ж", 20) + "a", impl.ErrLong, 0}, {long + " a", impl.OK, 0},
		{digits, impl.OK, 0}, {digits + "1", impl.ErrRange, 0}, {"(" + digits + "1", impl.ErrRange, 1}, {noughts, impl.ErrSyntax, 0}, {noughts + "0", impl.ErrRange, 0}, {noughts + "1", impl.ErrRange, 0},
		{"00", impl.ErrSyntax, 0}, {"01", impl.ErrSyntax, 0}, {" 007", impl.ErrSyntax, 1}, {"0", impl.OK, 0}, {"100", impl.OK, 0},
		{"1a", impl.ErrSyntax, 1}, {"0x1", impl.ErrSyntax, 1}, {"12_", impl.ErrSyntax, 2}, {"12ж", impl.ErrSyntax, 2}, {"0λ", impl.ErrSyntax, 1}, {"1×", impl.ErrSyntax, 1},
		{"@", impl.ErrSyntax, 0}, {"a @", impl.ErrSyntax, 2}, {">", impl.ErrSyntax, 0}, {"a>=b", impl.ErrSyntax, 1}, {"&", impl.ErrSyntax, 0}, {"'a'", impl.ErrSyntax, 0}, {"\\", impl.ErrSyntax, 0}, {"[", impl.ErrSyntax, 0}, {":", impl.ErrSyntax, 0}, {"#", impl.ErrSyntax, 0}, {"a×", impl.ErrSyntax, 1}, {"×", impl.ErrSyntax, 0}, {"\xef\xbf\xbd", impl.ErrSyntax, 0}, {"a\xef\xbf\xbd", impl.ErrSyntax, 1}, {"\x00", impl.ErrSyntax, 0}, {"\x0b", impl.ErrSyntax, 0}, {"\x0c", impl.ErrSyntax, 0}, {"\x7f", impl.ErrSyntax, 0}, {"\u00a0", impl.ErrSyntax, 0}, {"\ufeff", impl.ErrSyntax, 0}, {"\u2028", impl.ErrSyntax, 0},
		{"\xff", impl.ErrForm, 0}, {" \xff", impl.ErrForm, 1}, {"a\xff", impl.ErrForm, 1}, {"1\xff", impl.ErrForm, 1}, {"(\xff", impl.ErrForm, 1}, {"ж\xd0", impl.ErrForm, 2}, {"\"\"\x80", impl.ErrForm, 2}, {"\xed\xa0\x80", impl.ErrForm, 0}, {"\xc1\xa1", impl.ErrForm, 0},
		{"//\xff", impl.ErrForm, 2}, {"// a\n//b\xff\n", impl.ErrForm, 8}, {"//ж\xd0\n", impl.ErrForm, 4}, {"/\xff", impl.ErrForm, 1}, {"//\xef\xbf\xbd", impl.OK, 0}, {"//@\\\"", impl.OK, 0},
		{"\"\xff\"", impl.ErrForm, 1}, {"a \"ж\x80\"", impl.ErrForm, 5}, {"\"\xed\xbf\xbf\"", impl.ErrForm, 1},
		{`"`, impl.ErrSyntax, 0}, {` "a`, impl.ErrSyntax, 1}, {`""" `, impl.ErrSyntax, 2}, {"\"a\n\"", impl.ErrSyntax, 0}, {"x\"a\tb\"", impl.ErrSyntax, 1}, {"\"\x00\"", impl.ErrSyntax, 0}, {"\"\x1f\"", impl.ErrSyntax, 0}, {"\"\r\"", impl.ErrSyntax, 0}, {"\" \"", impl.OK, 0}, {"\"\x7f\"", impl.OK, 0},
		{`"\q"`, impl.ErrSyntax, 1}, {`"ab\t"`, impl.ErrSyntax, 3}, {`"ж\0"`, impl.ErrSyntax, 3}, {`"\N"`, impl.ErrSyntax, 1}, {`"\xA0"`, impl.ErrSyntax, 1}, {`"\x0A"`, impl.ErrSyntax, 1}, {`"\xg0"`, impl.ErrSyntax, 1}, {`"\x0g"`, impl.ErrSyntax, 1}, {`"\x"`, impl.ErrSyntax, 1}, {`"\x1"`, impl.ErrSyntax, 1}, {`"\X11"`, impl.ErrSyntax, 1}, {`"\\q"`, impl.OK, 0}, {`"\\\q"`, impl.ErrSyntax, 3}, {`"\x/0"`, impl.ErrSyntax, 1}, {`"\x:0"`, impl.ErrSyntax, 1}, {"\"\\x`0\"", impl.ErrSyntax, 1}, {`"\x09\x9f\xf0\xaa"`, impl.OK, 0},
	}
	for _, c := range cases {
		for again := 0; again < 2; again++ {
			list, code, place := impl.Tokens(c.text)
			if code != c.code || place != c.place || code != impl.OK && len(list) > 0 {
				t.Errorf("Tokens(%q) = %v, %d at %d, not %d at %d", c.text, list, code, place, c.code, c.place)
			}
		}
		checkTokens(t, c.text)
	}
}

func TestTokensWhichFaultCounts(t *testing.T) {
	long := strings.Repeat("a", impl.MaxName+1)
	digits := strings.Repeat("0", 19)
	cases := []struct {
		text        string
		code, place int
	}{
		{"@ \xff", impl.ErrSyntax, 0}, {"\xff @", impl.ErrForm, 0}, {long + "\xff", impl.ErrLong, 0}, {"\xff" + long, impl.ErrForm, 0}, {long + "@", impl.ErrLong, 0}, {"@" + long, impl.ErrSyntax, 0}, {"//\xff\n@", impl.ErrForm, 2}, {"@//\xff", impl.ErrSyntax, 0},
		{digits + "a", impl.ErrRange, 0}, {"00a", impl.ErrSyntax, 0}, {"10a@", impl.ErrSyntax, 2}, {digits + "\xff", impl.ErrRange, 0}, {"00\xff", impl.ErrSyntax, 0}, {"1a\xff", impl.ErrSyntax, 1}, {"1\xffa", impl.ErrForm, 1}, {"1" + long, impl.ErrSyntax, 1},
		{`"\q\z"`, impl.ErrSyntax, 1}, {`"\q`, impl.ErrSyntax, 1}, {"\"\\q\n\"", impl.ErrSyntax, 1}, {"\"\n\\q\"", impl.ErrSyntax, 0}, {"\"a\xff\\q\"", impl.ErrForm, 2}, {"\"a\\q\xff\"", impl.ErrSyntax, 2}, {"\"a\xff\n\"", impl.ErrForm, 2}, {"\"a\n\xff\"", impl.ErrSyntax, 0}, {"\"a\xff", impl.ErrForm, 2}, {"\"a\\q", impl.ErrSyntax, 2},
		{"\"a\\\xff\"", impl.ErrSyntax, 2}, {"\"a\\x\xff1\"", impl.ErrSyntax, 2}, {"\"a\\\n\"", impl.ErrSyntax, 2}, {`"a\`, impl.ErrSyntax, 2}, {`"a\x`, impl.ErrSyntax, 2}, {`"a\x4`, impl.ErrSyntax, 2}, {`"a\x41`, impl.ErrSyntax, 0}, {`"a\"`, impl.ErrSyntax, 0}, {"\"a//\xff", impl.ErrForm, 4},
		{`"a" "b\q" 1a`, impl.ErrSyntax, 6}, {`1a "b\q"`, impl.ErrSyntax, 1},
	}
	for _, c := range cases {
		if _, code, place := impl.Tokens(c.text); code != c.code || place != c.place {
			t.Errorf("Tokens(%q): %d at %d, not %d at %d", c.text, code, place, c.code, c.place)
		}
		checkTokens(t, c.text)
	}
}

func TestTokensHowMany(t *testing.T) {
	full := strings.Repeat("a(\n1;", impl.MaxTokens/4)
	end := len(full)
	cases := []struct {
		behind      string
		code, place int
	}{
		{"", impl.OK, 0}, {" \t\r\n", impl.OK, 0}, {"// more", impl.OK, 0}, {"//\n \n//", impl.OK, 0},
		{"a", impl.ErrMany, end}, {"  1", impl.ErrMany, end + 2}, {"//\n(", impl.ErrMany, end + 3}, {"/", impl.ErrMany, end}, {"/ /", impl.ErrMany, end}, {`"`, impl.ErrMany, end}, {`"\q"`, impl.ErrMany, end}, {"\"\xff", impl.ErrMany, end}, {"@", impl.ErrMany, end}, {"×", impl.ErrMany, end}, {"\x00", impl.ErrMany, end}, {"007", impl.ErrMany, end}, {"1a", impl.ErrMany, end}, {strings.Repeat("1", 19), impl.ErrMany, end}, {strings.Repeat("a", 41), impl.ErrMany, end}, {"a\xff", impl.ErrMany, end}, {"\xef\xbf\xbd", impl.ErrMany, end},
		{"\xff", impl.ErrForm, end}, {" \xff", impl.ErrForm, end + 1}, {"// \xff", impl.ErrForm, end + 3}, {"//\n\xff a", impl.ErrForm, end + 3}, {"a //\xff", impl.ErrMany, end},
	}
	for _, c := range cases {
		list, code, place := impl.Tokens(full + c.behind)
		if code != c.code || place != c.place || code == impl.OK && len(list) != impl.MaxTokens || code != impl.OK && len(list) > 0 {
			t.Errorf("MaxTokens lexemes and %q: %d lexemes, %d at %d, not %d at %d", c.behind, len(list), code, place, c.code, c.place)
		}
	}
	checkTokens(t, full)
}

// P1: texts of MaxText bytes and of one more.
func TestTokensLengths(t *testing.T) {
	blank := strings.Repeat(" ", impl.MaxText-1)
	list, code, place := impl.Tokens(blank + "a")
	if code != impl.OK || place != 0 || len(list) != 1 || list[0].At != impl.MaxText-1 || list[0].Col != impl.MaxText {
		t.Errorf("MaxText bytes: %v, %d at %d", list, code, place)
	}
	if _, code, place := impl.Tokens(blank + "@"); code != impl.ErrSyntax || place != impl.MaxText-1 {
		t.Errorf("a fault at the last of MaxText bytes: %d at %d", code, place)
	}
	for _, text := range []string{blank + "aa", "\xff@" + blank, strings.Repeat("a", impl.MaxText+1), strings.Repeat("1 ", impl.MaxText), `"` + blank + `"`} {
		if list, code, place := impl.Tokens(text); code != impl.ErrLong || place != 0 || len(list) > 0 {
			t.Errorf("more than MaxText bytes: %d at %d", code, place)
		}
	}
	for _, text := range []string{strings.Repeat("a", impl.MaxText), strings.Repeat("1", impl.MaxText), strings.Repeat("/", impl.MaxText), strings.Repeat(`"`, impl.MaxText), strings.Repeat(`\`, impl.MaxText), strings.Repeat("\xff", impl.MaxText), strings.Repeat("\n", impl.MaxText), `"` + strings.Repeat(`\\`, impl.MaxText/2-1) + `"`} {
		checkTokens(t, text)
	}
}

// P2: what is written one behind the other with line ends between is the same again.
func TestTokensOfAnyText(t *testing.T) {
	source := newSource()
	parts := []string{"a", "Ж1", "_", "when", "0", "12", "9999999999", strings.Repeat("a", 20), "(", ")", "{", "}", ",", ";", ".", "=", "!", "<", "+", "-", "*", "/", "%", "//", " ", "\t", "\r", "\n",
		`"`, `"`, `"a"`, `"\x00ж"`, `\n`, `\"`, `\\`, `\x`, `\q`, "f", "λ", "\xef\xbf\xbd"}
	rare := append([]string{"\xff", "\xd0", "@", "×", "\x00", ">"}, parts...)
	right := 0
	for n := range 60000 {
		text := source.joined(parts, 12)
		if n%3 == 0 {
			text = source.joined(rare, 12)
		}
		checkTokens(t, text)
		if list, code, _ := impl.Tokens(text); code == impl.OK {
			right++
			checkAgain(t, list)
		}
	}
	if right < 1000 {
		t.Error("too few right texts:", right)
	}
	for range 20000 {
		checkTokens(t, source.bytes(8))
	}
}

// P2: lexemes of all kinds with something between them are told one by one.
func TestTokensAmongOthers(t *testing.T) {
	source := newSource()
	lexemes := []string{"a", "жук", "package", "_9", "0", "7", "123456789012345678", `""`, `"a\n\x00"`, "\"ж\x7f\"", "(", ")", "{", "}", ",", ";", ".", "=", "==", "!=", "<", "<=", "+", "-", "*", "/", "%", "!"}
	blanks := []string{" ", "\t", "\n", "\r\n", " // x\n", "\n//ж//\n\n"}
	for range 3000 {
		text, count := "", 0
		for range source.IntN(30) {
			text += pick(source, lexemes) + pick(source, blanks)
			count++
		}
		list, code, place := impl.Tokens(text)
		if code != impl.OK || place != 0 || len(list) != count {
			t.Fatalf("Tokens(%q): %d lexemes, %d at %d", text, len(list), code, place)
		}
		checkTokens(t, text)
		checkAgain(t, list)
	}
}

func isInside(part, whole string) bool {
	if part == "" {
		return false
	}
	at, from := uintptr(unsafe.Pointer(unsafe.StringData(part))), uintptr(unsafe.Pointer(unsafe.StringData(whole)))
	return from <= at && at < from+uintptr(len(whole))
}

// P1: an answer is new memory; writing into it turns no later answer.
func TestWordsAnswersAreNew(t *testing.T) {
	text := strings.Clone(`abc 12 "text" <=`)
	first, _, _ := impl.Tokens(text)
	for i := range first {
		if isInside(first[i].Text, text) {
			t.Errorf("the lexeme %q shares memory with the text", first[i].Text)
		}
		first[i] = impl.Token{Kind: 9, Text: "x"}
	}
	first = append(first[:1], impl.Token{Kind: 8})
	checkTokens(t, text)
	quoted := strings.Clone(`"text"`)
	if got, _ := impl.Unquote(quoted); isInside(got, quoted) {
		t.Error("Unquote's answer shares memory with the text")
	}
	if isInside(impl.Fold(text), text) || isInside(impl.Quote(text), text) {
		t.Error("Fold's or Quote's answer shares memory with the text")
	}
}
