package tests

import (
	"fmt"
	"strings"
	"testing"

	"loop.example/g00045/impl"
)

// wantQuote writes a text's lexeme rune by rune as the document tells it.
func wantQuote(text string) string {
	out := `"`
	for at := 0; at < len(text); {
		r, n := wantRune(text, at)
		switch {
		case r == 10:
			out += `\n`
		case r == '"' || r == '\\':
			out += `\` + text[at:at+1]
		case r < 32 || r == 127 || r == 65533 && n == 1:
			out += fmt.Sprintf(`\x%02x`, text[at])
		default:
			out += text[at : at+n]
		}
		at += n
	}
	return out + `"`
}

// checkThereAndBack: the text's lexeme is as it must be and stands for it, alone and among others.
func checkThereAndBack(t *testing.T, text string) {
	t.Helper()
	quoted := impl.Quote(text)
	if want := wantQuote(text); quoted != want {
		t.Fatalf("Quote(%q) = %q, not %q", text, quoted, want)
	}
	if back, ok := impl.Unquote(quoted); !ok || back != text {
		t.Fatalf("Unquote(%q) = %q, %v", quoted, back, ok)
	}
	list, code, place := impl.Tokens("a" + quoted + "12" + quoted + "//" + "\n" + quoted + ";")
	if code != impl.OK || place != 0 || len(list) != 6 {
		t.Fatalf("Tokens around %q: %d lexemes, code %d at %d", quoted, len(list), code, place)
	}
	for _, i := range []int{1, 3, 4} {
		if list[i].Kind != impl.TkText || list[i].Text != text || list[i].Num != 0 {
			t.Fatalf("Tokens around %q: %v", quoted, list[i])
		}
	}
}

func TestQuoteOfEveryByte(t *testing.T) {
	for b := 0; b < 256; b++ {
		one := string([]byte{byte(b)})
		for _, text := range []string{one, one + one, "a" + one + "b", "ж" + one, one + "ж", "\xd0" + one, one + "\x90", "\\" + one, one + "\"", "\n" + one} {
			checkThereAndBack(t, text)
		}
	}
}

func TestQuoteWords(t *testing.T) {
	cases := [][2]string{
		{"", `""`}, {"a b", `"a b"`}, {"\n", `"\n"`}, {"\t\r\x00\x1f", `"\x09\x0d\x00\x1f"`}, {" ~", `" ~"`}, {"\x7f", `"\x7f"`}, {"\u0080", "\"\u0080\""},
		{`"`, `"\""`}, {`\`, `"\\"`}, {`\n`, `"\\n"`}, {"\xff\xfe", `"\xff\xfe"`}, {"\xef\xbf\xbd", "\"\xef\xbf\xbd\""}, {"\xef\xbf", `"\xef\xbf"`}, {"\xed\xa0\x80", `"\xed\xa0\x80"`},
		{"//", `"//"`}, {"\U0010ffff", "\"\U0010ffff\""}, {"\xf4\x90\x80\x80", `"\xf4\x90\x80\x80"`},
	}
	for _, c := range cases {
		for again := 0; again < 2; again++ {
			if got := impl.Quote(c[0]); got != c[1] {
				t.Errorf("Quote(%q) = %s, not %s", c[0], got, c[1])
			}
		}
		checkThereAndBack(t, c[0])
	}
}

func TestQuoteOfAnyBytes(t *testing.T) {
	source := newSource()
	for range 20000 {
		checkThereAndBack(t, source.bytes(10))
	}
}

// P2 is said of texts of at most 15000 bytes; Quote and Unquote have MaxText as their bound.
func TestQuoteLengths(t *testing.T) {
	for _, text := range []string{strings.Repeat("\xff", 15000), strings.Repeat("a", 15000), strings.Repeat("\n", 15000), strings.Repeat("ж", 7500)} {
		quoted := impl.Quote(text)
		if back, ok := impl.Unquote(quoted); !ok || back != text {
			t.Error("15000 bytes there and back")
		}
		list, code, _ := impl.Tokens("(" + quoted + ")")
		if code != impl.OK || len(list) != 3 || list[1].Text != text {
			t.Error("15000 bytes among others")
		}
	}
	if got := impl.Quote(strings.Repeat("\xff", impl.MaxText)); got != `"`+strings.Repeat(`\xff`, impl.MaxText)+`"` {
		t.Error("Quote of MaxText bytes")
	}
	if got := impl.Quote(strings.Repeat("a", impl.MaxText+1)); got != "" {
		t.Error("Quote of more than MaxText bytes is not empty")
	}
	inner := strings.Repeat("a", impl.MaxText-2)
	if got, ok := impl.Unquote(`"` + inner + `"`); !ok || got != inner {
		t.Error("Unquote of MaxText bytes")
	}
	if got, ok := impl.Unquote(`"a` + inner + `"`); ok || got != "" {
		t.Error("Unquote of more than MaxText bytes")
	}
}

func TestUnquote(t *testing.T) {
	right := [][2]string{{`""`, ""}, {`"a"`, "a"}, {`"\x41\x00\xff"`, "A\x00\xff"}, {`"\n\"\\"`, "\n\"\\"}, {`"\\n"`, `\n`}, {"\"\x7f\"", "\x7f"}, {`"\xd0\x96"`, "Ж"}, {"\"\xef\xbf\xbd\"", "\xef\xbf\xbd"}, {`"//"`, "//"}, {`"\x6e\x22"`, `n"`}}
	for _, c := range right {
		for again := 0; again < 2; again++ {
			if got, ok := impl.Unquote(c[0]); !ok || got != c[1] {
				t.Errorf("Unquote(%s) = %q, %v", c[0], got, ok)
			}
		}
	}
	wrong := []string{"", `"`, "a", "1", "(", " ", "//", `a"`, `"a`, `a"b"`, ` "a"`, `"a" `, "\n\"a\"", "\"a\"\n", `"a"//`, `//"a"`, `"a""b"`, `"a"b`, `"a";`, `"a"1`, `"""`, "\"a\"\xff", "\xff\"a\"",
		`"\"`, `"\q"`, `"\N"`, `"\x"`, `"\x4"`, `"\x4g"`, `"\xg4"`, `"\xAF"`, `"\xaF"`, `"\X41"`, `"\x`, `"\x4`, `"\x41`, `"\`, `"\t"`, `"\u0041"`, `"\0"`, `"\'"`, `'a'`,
		"\"\n\"", "\"\t\"", "\"\x00\"", "\"\x1f\"", "\"\\\n\"", "\"\xff\"", "\"\xed\xa0\x80\"", "\"ж\xd0\"", "\"\\\xff\""}
	for _, text := range wrong {
		if got, ok := impl.Unquote(text); ok || got != "" {
			t.Errorf("Unquote(%q) = %q, %v", text, got, ok)
		}
	}
}

// A text is unquoted just where Tokens tells one text that is as long as the whole.
func TestUnquoteGoesByTokens(t *testing.T) {
	source := newSource()
	parts := []string{`"`, `"`, `\`, `\n`, `\x41`, `\xF`, "a", "ж", " ", "\n", "\xff", "//", "1"}
	for range 50000 {
		text := source.joined(parts, 6)
		list, code, _ := impl.Tokens(text)
		longer, _, _ := impl.Tokens(text + "(")
		want := code == impl.OK && len(list) == 1 && list[0].Kind == impl.TkText && list[0].At == 0 && len(longer) == 2 && longer[1].At == len(text) && strings.HasSuffix(text, `"`)
		got, ok := impl.Unquote(text)
		if ok != want || ok && got != list[0].Text || !ok && got != "" {
			t.Fatalf("Unquote(%q) = %q, %v", text, got, ok)
		}
	}
}

// P2: each byte behind a backslash, and in both places of two hex digits.
func TestEscapesOfEveryByte(t *testing.T) {
	plain := map[byte]string{'n': "\n", '"': `"`, '\\': `\`}
	for b := 0; b < 256; b++ {
		one := string([]byte{byte(b)})
		want, right := plain[byte(b)]
		checkEscape(t, `\`+one, want, right)
		digit := strings.Index("0123456789abcdef", one)
		checkEscape(t, `\x`+one+"1", string([]byte{byte(digit*16 + 1)}), digit >= 0)
		checkEscape(t, `\x1`+one, string([]byte{byte(16 + digit)}), digit >= 0)
	}
}

func checkEscape(t *testing.T, escape, want string, right bool) {
	t.Helper()
	lexeme := `"q` + escape + `"`
	list, code, place := impl.Tokens(" " + lexeme)
	got, ok := impl.Unquote(lexeme)
	if ok != right {
		t.Fatalf("Unquote(%q) = %q, %v", lexeme, got, ok)
	}
	if !right && (code != impl.ErrSyntax || place != 3 || got != "") {
		t.Fatalf("Tokens(%q): %d at %d", lexeme, code, place)
	}
	if right && (code != impl.OK || len(list) != 1 || list[0].Text != "q"+want || got != "q"+want) {
		t.Fatalf("Tokens(%q): %v, %d at %d", lexeme, list, code, place)
	}
}
