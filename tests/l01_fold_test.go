package tests

import (
	"strings"
	"testing"

	"loop.example/g00045/impl"
)

var capitalRanges = [][2]int{{'A', 'Z'}, {192, 214}, {216, 222}, {913, 929}, {931, 937}, {1040, 1071}}

// P2: Fold at both sides of each bound, and folded again.
func TestFoldOfEachRune(t *testing.T) {
	for r := 0; r <= 1114111; r++ {
		if !mayBeEncoded(r) {
			continue
		}
		text, folded := encoding(r, shortest(r)), r
		if inRanges(r, capitalRanges) {
			folded = r + 32
		}
		want := encoding(folded, shortest(folded))
		got := impl.Fold(text)
		if got != want {
			t.Fatalf("Fold of the rune %d: %q, not %q", r, got, want)
		}
		if impl.Fold(got) != got {
			t.Fatalf("Fold of the folded rune %d", r)
		}
	}
}

func TestFoldTexts(t *testing.T) {
	cases := [][2]string{
		{"", ""}, {"AbC xYz 09_", "abc xyz 09_"}, {"@AZ[", "@az["}, {"ÀÖ×ØÞß÷ÿ", "àö×øþß÷ÿ"}, {"ΑΡ\u03a2ΣΩΪ", "αρ\u03a2σωΪ"}, {"ЏАЯаяё", "Џаяаяё"},
		{"\xffA\xff", "\xffa\xff"}, {"\xd0A\x90", "\xd0a\x90"}, {"\xd0\x90\xd0", "\xd0\xb0\xd0"}, {"\xc1\x81", "\xc1\x81"}, {"\xe0\x81\x81Z", "\xe0\x81\x81z"},
		{"\xed\xa0\x80Ж", "\xed\xa0\x80ж"}, {"\xef\xbf\xbdA", "\xef\xbf\xbda"}, {"Ж\x80", "ж\x80"}, {"\x90Ж", "\x90ж"}, {"\x00\nA\x7f", "\x00\na\x7f"},
	}
	for _, c := range cases {
		for again := 0; again < 2; again++ {
			if got := impl.Fold(c[0]); got != c[1] {
				t.Errorf("Fold(%q) = %q, not %q", c[0], got, c[1])
			}
		}
		if got := impl.Fold(c[1]); got != c[1] {
			t.Errorf("Fold(%q) again = %q", c[1], got)
		}
	}
}

// P1: texts of MaxText bytes and of one more, and texts of any bytes.
func TestFoldLengthsAndBytes(t *testing.T) {
	if got := impl.Fold(strings.Repeat("Ж", impl.MaxText/2)); got != strings.Repeat("ж", impl.MaxText/2) {
		t.Error("Fold of MaxText bytes")
	}
	if got := impl.Fold(strings.Repeat("A", impl.MaxText+1)); got != "" {
		t.Error("Fold of more than MaxText bytes is not empty")
	}
	source := newSource()
	for range 5000 {
		text := source.bytes(12)
		got := impl.Fold(text)
		if len(got) != len(text) || impl.Fold(got) != got {
			t.Fatalf("Fold(%q) = %q", text, got)
		}
		for at := 0; at < len(text); {
			r, n := wantRune(text, at)
			folded, _ := wantRune(got, at)
			if inRanges(r, capitalRanges) {
				r += 32
			} else if got[at:at+n] != text[at:at+n] {
				t.Fatalf("Fold(%q) = %q", text, got)
			}
			if folded != r {
				t.Fatalf("Fold(%q) = %q", text, got)
			}
			at += n
		}
	}
}
