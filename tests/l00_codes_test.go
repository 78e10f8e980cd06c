package tests

import (
	"math"
	"strings"
	"testing"

	"loop.example/g00045/impl"
)

var wantCodes = []struct {
	code int
	word string
}{
	{impl.OK, "ok"}, {impl.ErrBad, "bad"}, {impl.ErrLong, "long"}, {impl.ErrForm, "form"}, {impl.ErrSyntax, "syntax"},
	{impl.ErrName, "name"}, {impl.ErrTwice, "twice"}, {impl.ErrNone, "none"}, {impl.ErrLoop, "loop"}, {impl.ErrRange, "range"},
	{impl.ErrMany, "many"}, {impl.ErrZero, "zero"}, {impl.ErrFail, "fail"}, {impl.ErrFuel, "fuel"}, {impl.ErrState, "state"},
	{impl.ErrRight, "right"}, {impl.ErrQuota, "quota"}, {impl.ErrStuck, "stuck"}, {impl.ErrDeep, "deep"}, {impl.ErrKind, "kind"},
}

// P2: each code's word is told back.
func TestCodesThereAndBack(t *testing.T) {
	if len(wantCodes) != 20 {
		t.Fatal("the table has 20 rows")
	}
	for i, c := range wantCodes {
		if c.code != i {
			t.Errorf("%s is %d, not %d", c.word, c.code, i)
		}
		for again := 0; again < 2; again++ {
			if got := impl.CodeWord(i); got != c.word {
				t.Errorf("CodeWord(%d) = %q, not %q", i, got, c.word)
			}
			if got := impl.CodeOf(c.word); got != i {
				t.Errorf("CodeOf(%q) = %d, not %d", c.word, got, i)
			}
		}
	}
}

// P1: any integer and any text may be handed in.
func TestCodesThatAreNone(t *testing.T) {
	for _, code := range []int{-1, -2, 20, 21, 256, 1 << 32, 1<<32 + 1, math.MaxInt, math.MinInt, math.MinInt + 3} {
		if got := impl.CodeWord(code); got != "" {
			t.Errorf("CodeWord(%d) = %q", code, got)
		}
	}
	words := []string{"", "OK", "Ok", "ok ", " ok", "o", "okk", "kin", "kinds", "0", "error", "ok\x00", "\xff", "ж",
		strings.Repeat("a", impl.MaxText), strings.Repeat("a", impl.MaxText+1), "ok" + strings.Repeat(" ", impl.MaxText)}
	for _, word := range words {
		if got := impl.CodeOf(word); got != -1 {
			t.Errorf("CodeOf(%.20q) = %d", word, got)
		}
	}
}

func TestLimitsOfChapters1And2(t *testing.T) {
	if impl.MaxText != 65536 || impl.MaxList != 4096 || impl.MaxName != 40 || impl.MaxTokens != 20000 {
		t.Error("limits")
	}
	if impl.TkName != 1 || impl.TkNum != 2 || impl.TkText != 3 || impl.TkSign != 4 {
		t.Error("kinds of lexemes")
	}
}
