package tests

import (
	"math"
	"strings"
	"testing"

	"loop.example/g00045/impl"
)

// encoding writes a number in so many bytes by UTF-8's pattern, the shortest form or not, allowed or not.
func encoding(number, bytes int) string {
	if bytes == 1 {
		return string([]byte{byte(number)})
	}
	out := make([]byte, bytes)
	for i := bytes - 1; i > 0; i-- {
		out[i] = byte(0x80 | number&0x3f)
		number >>= 6
	}
	out[0] = byte(0xff<<(8-bytes)) | byte(number)
	return string(out)
}

func shortest(number int) int {
	switch {
	case number < 0x80:
		return 1
	case number < 0x800:
		return 2
	case number < 0x10000:
		return 3
	}
	return 4
}

func mayBeEncoded(number int) bool {
	return number <= 1114111 && (number < 55296 || number > 57343)
}

// wantRune works a rune out without a decoder: it looks for the number whose encoding stands there.
func wantRune(text string, at int) (int, int) {
	if at < 0 || at >= len(text) {
		return 0, 0
	}
	if text[at] < 128 {
		return int(text[at]), 1
	}
	for size := 2; size <= 4 && at+size <= len(text); size++ {
		number := int(text[at]) & (0xff >> (size + 1))
		for _, b := range []byte(text[at+1 : at+size]) {
			number = number<<6 | int(b)&0x3f
		}
		if mayBeEncoded(number) && shortest(number) == size && encoding(number, size) == text[at:at+size] {
			return number, size
		}
	}
	return 65533, 1
}

func checkRune(t *testing.T, text string, at int) {
	t.Helper()
	wantR, wantN := wantRune(text, at)
	for again := 0; again < 2; again++ {
		if r, n := impl.RuneAt(text, at); r != wantR || n != wantN {
			t.Fatalf("RuneAt(%.20q, %d) = %d, %d, not %d, %d", text, at, r, n, wantR, wantN)
		}
	}
}

// P2: RuneAt at each place of the encoding of each number, shortest or longer, allowed or not.
func TestRuneAtOfEachNumber(t *testing.T) {
	for number := 0; number <= 0x1fffff; number++ {
		size := shortest(number)
		text := encoding(number, size)
		r, n := impl.RuneAt(text, 0)
		if mayBeEncoded(number) {
			if r != number || n != size {
				t.Fatalf("RuneAt of %d: %d, %d", number, r, n)
			}
		} else if r != 65533 || n != 1 {
			t.Fatalf("RuneAt of %d: %d, %d, though it has no right encoding", number, r, n)
		}
		for at := 1; at < size; at++ {
			if r, n := impl.RuneAt(text, at); r != 65533 || n != 1 {
				t.Fatalf("RuneAt within %d at %d: %d, %d", number, at, r, n)
			}
		}
		for longer := max(size+1, 2); longer <= 4 && number <= 0xffff; longer++ {
			if r, n := impl.RuneAt(encoding(number, longer), 0); r != 65533 || n != 1 {
				t.Fatalf("RuneAt of %d in %d bytes: %d, %d", number, longer, r, n)
			}
		}
	}
}

func TestRuneAtOfAllPairsOfBytes(t *testing.T) {
	for first := 0; first < 256; first++ {
		for second := 0; second < 256; second++ {
			text := string([]byte{byte(first), byte(second)})
			checkRune(t, text, 0)
			checkRune(t, text, 1)
		}
	}
}

func TestRuneAtOfWrongEncodings(t *testing.T) {
	texts := []string{"\xef\xbf\xbd", "\xef\xbf", "\xef", "\xed\xa0\x80", "\xed\xbf\xbf", "\xed\x9f\xbf", "\xee\x80\x80", "\xf4\x8f\xbf\xbf", "\xf4\x90\x80\x80",
		"\xf5\x80\x80\x80", "\xf8\x88\x80\x80\x80", "\xfe", "\xff", "\xc0\x80", "\xc1\xbf", "\xc2\x80", "\xe0\x80\x80", "\xe0\x9f\xbf", "\xe0\xa0\x80", "\xf0\x80\x80\x80", "\xf0\x8f\xbf\xbf", "\xf0\x90\x80\x80",
		"\xe2\x82", "\xe2\x82a", "\xe2a\x82", "\xf0\x9f\x98", "\xf0\x9f\x98z", "a\x80ж\xd0", "жз\xff\xffЖ"}
	for _, text := range texts {
		for at := -2; at <= len(text)+2; at++ {
			checkRune(t, text, at)
			checkRune(t, "x"+text+"\x80", at)
		}
	}
	if r, n := impl.RuneAt("\xef\xbf\xbd", 0); r != 65533 || n != 3 {
		t.Error("65533 itself:", r, n)
	}
}

// P1: any place, and texts up to MaxText and beyond.
func TestRuneAtPlacesAndLengths(t *testing.T) {
	for _, at := range []int{math.MinInt, -1 << 32, -1, 1, 2, 1 << 32, math.MaxInt} {
		for _, text := range []string{"", "a"} {
			if r, n := impl.RuneAt(text, at); r != 0 || n != 0 {
				t.Errorf("RuneAt(%q, %d) = %d, %d", text, at, r, n)
			}
		}
	}
	whole := strings.Repeat("a", impl.MaxText-2) + "ж"
	checkRune(t, whole, 0)
	checkRune(t, whole, impl.MaxText-2)
	checkRune(t, whole, impl.MaxText-1)
	checkRune(t, whole, impl.MaxText)
	for _, at := range []int{-1, 0, 1, impl.MaxText - 1, impl.MaxText, impl.MaxText + 1} {
		if r, n := impl.RuneAt(whole+"a", at); r != 0 || n != 0 {
			t.Errorf("RuneAt of a text that is too long at %d: %d, %d", at, r, n)
		}
	}
}

var letterRanges = [][2]int{{'a', 'z'}, {'A', 'Z'}, {95, 95}, {192, 214}, {216, 246}, {248, 591}, {913, 929}, {931, 937}, {945, 969}, {1040, 1103}}

func inRanges(r int, ranges [][2]int) bool {
	for _, bounds := range ranges {
		if bounds[0] <= r && r <= bounds[1] {
			return true
		}
	}
	return false
}

func TestIsLetterAtEachBound(t *testing.T) {
	for r := -2000; r <= 1114200; r++ {
		if impl.IsLetter(r) != inRanges(r, letterRanges) {
			t.Fatalf("IsLetter(%d) = %v", r, impl.IsLetter(r))
		}
	}
	for _, bounds := range letterRanges {
		for _, far := range []int{1 << 8, 1 << 16, 1 << 31, 1 << 32, 1 << 40, math.MinInt} {
			r := bounds[0] + far
			if impl.IsLetter(r) != inRanges(r, letterRanges) {
				t.Errorf("IsLetter(%d) = %v", r, impl.IsLetter(r))
			}
		}
	}
	if impl.IsLetter(math.MaxInt) || impl.IsLetter(math.MinInt) {
		t.Error("IsLetter of the greatest or the least number")
	}
}

var reservedWords = []string{"package", "import", "const", "var", "func", "init", "stop", "set", "emit", "fail", "when"}

func TestNameOK(t *testing.T) {
	long := strings.Repeat("a", impl.MaxName)
	right := []string{"a", "Z", "_", "__", "a1", "_9", "größe", "λ", "Ω1", "жук", "ſ", long, strings.Repeat("ж", impl.MaxName/2), "x" + strings.Repeat("0", impl.MaxName-1)}
	wrong := []string{"", "1", "1a", "0", " ", "a b", " a", "a ", "a-b", "a.b", "a\n", "a\x00", "×", "÷", "a×", "a÷b", "\u0250", "a\u0250", "\u0400", "\u0450", "é\u0301", "٣", "a٣",
		"\xff", "a\xff", "\xffa", "ж\xd0", "a\xd0", "\xed\xa0\x80", "\xef\xbf\xbd", "a\xef\xbf\xbd", "\xc1\xa1", long + "a", strings.Repeat("ж", impl.MaxName/2) + "a", "a" + strings.Repeat("ж", impl.MaxName/2),
		strings.Repeat("a", impl.MaxText), strings.Repeat("a", impl.MaxText+1)}
	for _, word := range reservedWords {
		wrong = append(wrong, word)
		right = append(right, word+"s", word+"1", "_"+word, strings.ToUpper(word), word[1:])
	}
	for again := 0; again < 2; again++ {
		for _, name := range right {
			if !impl.NameOK(name) {
				t.Errorf("NameOK(%q) is false", name)
			}
		}
		for _, name := range wrong {
			if impl.NameOK(name) {
				t.Errorf("NameOK(%.60q) is true", name)
			}
		}
	}
}

func TestNameOKOfEachRune(t *testing.T) {
	for r := 0; r <= 70000; r++ {
		if !mayBeEncoded(r) {
			continue
		}
		rune, letter := encoding(r, shortest(r)), inRanges(r, letterRanges)
		if impl.NameOK(rune) != letter || impl.NameOK("q"+rune) != (letter || '0' <= r && r <= '9') {
			t.Fatalf("NameOK with the rune %d", r)
		}
	}
}
