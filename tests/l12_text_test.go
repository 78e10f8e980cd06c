package tests

import (
	"slices"
	"strconv"
	"strings"
	"testing"

	"loop.example/g00045/impl"
)

// checkLines: a text with semicolons in the place of line ends is read as the second telling reads it, and with that code at that line.
func checkLines(t *testing.T, text string, code, line int) {
	t.Helper()
	checkReadText(t, strings.ReplaceAll(text, ";", "\n"), code, line)
}

func checkReadText(t *testing.T, text string, code, line int) {
	t.Helper()
	p, gotCode, gotLine := impl.ReadProg(text)
	if gotCode != code || gotLine != line {
		t.Errorf("%q: %s at %d, not %s at %d", clipped(text), impl.CodeWord(gotCode), gotLine, impl.CodeWord(code), line)
	}
	if gotCode != impl.OK && len(p.Init)+len(p.Threads) > 0 {
		t.Errorf("%q: %s with a program", clipped(text), impl.CodeWord(gotCode))
	}
	checkReadAlike(t, text)
}

// checkReadAlike: as the second telling reads it. What is read is right.
func checkReadAlike(t *testing.T, text string) (int, int) {
	t.Helper()
	p, code, line := impl.ReadProg(text)
	wantP, wantCode, wantLine := wantReadProg(text)
	if code != wantCode || line != wantLine || !isSameProg(p, wantP) {
		t.Fatalf("%q: %s at %d, not %s at %d\n%s", text[:min(len(text), 2000)], impl.CodeWord(code), line, impl.CodeWord(wantCode), wantLine, showCells(p))
	}
	if impl.ProgOK(p) != (code == impl.OK) {
		t.Fatalf("%q: %s, and ProgOK %t", clipped(text), impl.CodeWord(code), impl.ProgOK(p))
	}
	return code, line
}

// insTexts: each instruction with its text.
var insTexts = []struct {
	x    impl.Ins
	text string
}{
	{impl.Ins{Op: 1, Reg: 1, Cell: 0, Order: 1}, "load r1 c0 relaxed"},
	{impl.Ins{Op: 1, Reg: 6, Cell: 7, Order: 2}, "load r6 c7 acquire"},
	{impl.Ins{Op: 1, Reg: 2, Cell: 3, Order: 5}, "load r2 c3 seq"},
	{impl.Ins{Op: 2, Cell: 1, A: impl.Val{Num: 5}, Order: 1}, "store c1 5 relaxed"},
	{impl.Ins{Op: 2, Cell: 7, A: impl.Val{Num: -5}, Order: 3}, "store c7 -5 release"},
	{impl.Ins{Op: 2, Cell: 0, A: impl.Val{Reg: 6}, Order: 5}, "store c0 r6 seq"},
	{impl.Ins{Op: 3, Reg: 1, Cell: 2, A: impl.Val{}, Order: 1}, "swap r1 c2 0 relaxed"},
	{impl.Ins{Op: 3, Reg: 1, Cell: 2, A: impl.Val{Reg: 1}, Order: 2}, "swap r1 c2 r1 acquire"},
	{impl.Ins{Op: 3, Reg: 5, Cell: 2, A: impl.Val{Num: 999999999999999999}, Order: 3}, "swap r5 c2 999999999999999999 release"},
	{impl.Ins{Op: 3, Reg: 1, Cell: 2, A: impl.Val{Num: -999999999999999999}, Order: 4}, "swap r1 c2 -999999999999999999 both"},
	{impl.Ins{Op: 3, Reg: 4, Cell: 6, A: impl.Val{Reg: 3}, Order: 5}, "swap r4 c6 r3 seq"},
	{impl.Ins{Op: 4, Reg: 1, Cell: 2, A: impl.Val{Num: -1}, Order: 1}, "add r1 c2 -1 relaxed"},
	{impl.Ins{Op: 4, Reg: 2, Cell: 1, A: impl.Val{Reg: 2}, Order: 2}, "add r2 c1 r2 acquire"},
	{impl.Ins{Op: 4, Reg: 1, Cell: 2, A: impl.Val{Num: 10}, Order: 3}, "add r1 c2 10 release"},
	{impl.Ins{Op: 4, Reg: 1, Cell: 2, A: impl.Val{Num: 1}, Order: 4}, "add r1 c2 1 both"},
	{impl.Ins{Op: 4, Reg: 1, Cell: 2, A: impl.Val{Num: 1}, Order: 5}, "add r1 c2 1 seq"},
	{impl.Ins{Op: 5, Reg: 3, Cell: 4, A: impl.Val{Num: 1}, B: impl.Val{Num: 2}, Order: 1}, "cas r3 c4 1 2 relaxed"},
	{impl.Ins{Op: 5, Reg: 3, Cell: 4, A: impl.Val{Reg: 1}, B: impl.Val{Num: -2}, Order: 2}, "cas r3 c4 r1 -2 acquire"},
	{impl.Ins{Op: 5, Reg: 3, Cell: 4, A: impl.Val{Num: -1}, B: impl.Val{Reg: 2}, Order: 3}, "cas r3 c4 -1 r2 release"},
	{impl.Ins{Op: 5, Reg: 3, Cell: 4, A: impl.Val{Reg: 6}, B: impl.Val{Reg: 5}, Order: 4}, "cas r3 c4 r6 r5 both"},
	{impl.Ins{Op: 5, Reg: 3, Cell: 4, Order: 5}, "cas r3 c4 0 0 seq"},
	{impl.Ins{Op: 6, Reg: 1, Cell: 5, Cond: 1, A: impl.Val{Num: 9}, Order: 1}, "await r1 c5 == 9 relaxed"},
	{impl.Ins{Op: 6, Reg: 1, Cell: 5, Cond: 2, A: impl.Val{Reg: 1}, Order: 2}, "await r1 c5 != r1 acquire"},
	{impl.Ins{Op: 6, Reg: 1, Cell: 5, Cond: 3, A: impl.Val{Num: -9}, Order: 5}, "await r1 c5 < -9 seq"},
	{impl.Ins{Op: 6, Reg: 1, Cell: 5, Cond: 4, A: impl.Val{Num: 0}, Order: 1}, "await r1 c5 <= 0 relaxed"},
	{impl.Ins{Op: 7}, "fence"},
	{impl.Ins{Op: 8, Reg: 1, A: impl.Val{Num: -7}}, "set r1 -7"},
	{impl.Ins{Op: 8, Reg: 6, A: impl.Val{Reg: 1}}, "set r6 r1"},
	{impl.Ins{Op: 9, Reg: 1, A: impl.Val{Num: 7}}, "sum r1 7"},
	{impl.Ins{Op: 9, Reg: 2, A: impl.Val{Reg: 2}}, "sum r2 r2"},
	{impl.Ins{Op: 10, A: impl.Val{Reg: 1}, Cond: 1, B: impl.Val{Num: 0}, To: 0}, "jump r1 == 0 0"},
	{impl.Ins{Op: 10, A: impl.Val{Num: -3}, Cond: 2, B: impl.Val{Reg: 4}, To: 1}, "jump -3 != r4 1"},
	{impl.Ins{Op: 10, A: impl.Val{Num: 1}, Cond: 3, B: impl.Val{Num: -2}, To: 2}, "jump 1 < -2 2"},
	{impl.Ins{Op: 10, A: impl.Val{Reg: 1}, Cond: 4, B: impl.Val{Reg: 2}, To: 1}, "jump r1 <= r2 1"},
	{impl.Ins{Op: 11, To: 0, A: impl.Val{Num: 0}}, "call 0 0"},
	{impl.Ins{Op: 11, To: 99, A: impl.Val{Reg: 3}}, "call 99 r3"},
	{impl.Ins{Op: 11, To: 10, A: impl.Val{Num: -10}}, "call 10 -10"},
	{impl.Ins{Op: 12, A: impl.Val{Num: -1}}, "ret -1"},
	{impl.Ins{Op: 12, A: impl.Val{Reg: 5}}, "ret r5"},
	{impl.Ins{Op: 13, A: impl.Val{Reg: 1}, Cond: 1, B: impl.Val{Reg: 2}}, "assert r1 == r2"},
	{impl.Ins{Op: 13, A: impl.Val{Num: -1}, Cond: 2, B: impl.Val{Num: 1}}, "assert -1 != 1"},
	{impl.Ins{Op: 13, A: impl.Val{Num: 3}, Cond: 3, B: impl.Val{Reg: 2}}, "assert 3 < r2"},
	{impl.Ins{Op: 13, A: impl.Val{Reg: 1}, Cond: 4, B: impl.Val{Num: 30}}, "assert r1 <= 30"},
}

const eightCells = "cells 0 1 2 3 4 5 6 7\n"

func TestProgTextOfEachInstruction(t *testing.T) {
	for _, c := range insTexts {
		p := impl.Prog{Init: []int{0, 1, 2, 3, 4, 5, 6, 7}, Threads: [][]impl.Ins{{c.x, {Op: 7}}}}
		want := eightCells + "thread\n  " + c.text + "\n  fence\n"
		if text, code := impl.ProgText(p); text != want || code != impl.OK {
			t.Errorf("%s: %s %q", c.text, impl.CodeWord(code), text)
		}
		if again, code, line := impl.ReadProg(want); code != impl.OK || line != 0 || !isSameProg(again, p) {
			t.Errorf("%s: read: %s at %d: %s", c.text, impl.CodeWord(code), line, showCells(again))
		}
		checkReadBack(t, p)
	}
}

func TestProgText(t *testing.T) {
	for text, p := range map[string]impl.Prog{
		"cells 0\nthread\n":                                {Init: []int{0}, Threads: [][]impl.Ins{nil}},
		"cells -7\nthread\nthread\n":                       {Init: []int{-7}, Threads: [][]impl.Ins{{}, {}}},
		"cells 3 -999999999999999999 0\nthread\n  fence\n": {Init: []int{3, -999999999999999999, 0}, Threads: [][]impl.Ins{fences(1)}},
		eightCells + "thread\n  fence\n  fence\nthread\nthread\n  ret 0\nthread\n": {Init: []int{0, 1, 2, 3, 4, 5, 6, 7}, Threads: [][]impl.Ins{fences(2), nil, {{Op: 12}}, nil}},
	} {
		if got, code := impl.ProgText(p); got != text || code != impl.OK {
			t.Errorf("%q: %s %q", text, impl.CodeWord(code), got)
		}
		checkReadBack(t, p)
	}
}

func TestProgTextOfWrongPrograms(t *testing.T) {
	right := impl.Ins{Op: 7}
	for _, p := range []impl.Prog{
		{}, {Init: []int{0}}, {Threads: [][]impl.Ins{{right}}}, {Init: make([]int, 9), Threads: [][]impl.Ins{nil}}, {Init: []int{1e18}, Threads: [][]impl.Ins{nil}},
		{Init: []int{0}, Threads: make([][]impl.Ins, 5)}, {Init: []int{0}, Threads: [][]impl.Ins{fences(41)}}, {Init: []int{0}, Threads: [][]impl.Ins{{right, {}}}},
		{Init: []int{0}, Threads: [][]impl.Ins{{{Op: 7, To: 1}}}}, {Init: []int{0}, Threads: [][]impl.Ins{{{Op: 10, Cond: 1, To: 2}}}},
	} {
		if text, code := impl.ProgText(p); text != "" || code != impl.ErrBad || impl.ProgOK(p) {
			t.Errorf("%s: %s %q", showCells(p), impl.CodeWord(code), text)
		}
	}
}

// The longest text that a program has is read.
func TestProgTextOfTheLongest(t *testing.T) {
	least := impl.Val{Num: -999999999999999999}
	p := impl.Prog{Init: repeated(8, least.Num)}
	for range 4 {
		p.Threads = append(p.Threads, repeated(40, impl.Ins{Op: 5, Reg: 6, Cell: 7, A: least, B: least, Order: 1}))
	}
	checkReadBack(t, p)
	checkProg(t, "the longest", p, true)
}

func TestReadProgLong(t *testing.T) {
	right := "cells 0\nthread\n"
	for _, c := range []struct {
		text       string
		code, line int
	}{
		{right + strings.Repeat(" ", 65536-len(right)), impl.OK, 0},
		{right + strings.Repeat(" ", 65537-len(right)), impl.ErrLong, 0},
		{right + "#" + strings.Repeat("x", 65535-len(right)), impl.OK, 0},
		{right + "#" + strings.Repeat("x", 65536-len(right)), impl.ErrLong, 0},
		{right + strings.Repeat("\n", 65536-len(right)), impl.OK, 0},
		{right + strings.Repeat("\n", 65537-len(right)), impl.ErrLong, 0},
		{strings.Repeat("\n", 65536), impl.ErrSyntax, 65537},
		{strings.Repeat("\n", 65537), impl.ErrLong, 0},
		{"x" + strings.Repeat("\n", 65535), impl.ErrSyntax, 1},
		{"x" + strings.Repeat("\n", 65536), impl.ErrLong, 0},
		{right + "jump 0 == 0 9" + strings.Repeat("\n", 65537), impl.ErrLong, 0},
		{strings.Repeat(right, 5000), impl.ErrLong, 0},
		{longText, impl.ErrSyntax, 1},
		{tooLong, impl.ErrLong, 0},
		{strings.Repeat("x", millions), impl.ErrLong, 0},
		{"cells " + strings.Repeat("0 ", 32765), impl.ErrSyntax, 1},
		{"cells " + strings.Repeat("1", 65530), impl.ErrSyntax, 1},
		{"cells 0\nthread\n" + strings.Repeat("thread\n", 9000), impl.ErrMany, 6},
		{"cells 0\nthread\n" + strings.Repeat("fence\n", 10000), impl.ErrMany, 43},
	} {
		checkReadText(t, c.text, c.code, c.line)
	}
}

func TestReadProgCells(t *testing.T) {
	checkLines(t, "cells 0;thread", impl.OK, 0)
	checkLines(t, "cells 0 1 2 3 4 5 6 7;thread", impl.OK, 0)
	checkLines(t, "cells 0 1 2 3 4 5 6 7 8;thread", impl.ErrSyntax, 1)
	checkLines(t, "cells;thread", impl.ErrSyntax, 1)
	checkLines(t, "cells;cells 0;thread", impl.ErrSyntax, 1)
	checkLines(t, "cells 0;cells 0;thread", impl.ErrSyntax, 2)
	checkLines(t, "cells 0;thread;cells 0", impl.ErrSyntax, 3)
	checkLines(t, "cells 0;thread;fence;cells 0;thread", impl.ErrSyntax, 4)
	checkLines(t, "cells 0;cells;thread", impl.ErrSyntax, 2)
	checkLines(t, "thread;cells 0", impl.ErrSyntax, 1)
	checkLines(t, "fence;cells 0;thread", impl.ErrSyntax, 1)
	checkLines(t, ";;fence;cells 0;thread", impl.ErrSyntax, 3)
	checkLines(t, ";# a remark;;  ;cells 0;thread", impl.OK, 0)
	for _, word := range []string{"Cells", "CELLS", "cell", "cellss", "cells:", "ce lls", "\"cells\""} {
		checkLines(t, word+" 0;thread", impl.ErrSyntax, 1)
	}
	for _, word := range []string{"r1", "c0", "x", "==", "seq", "thread", "cells", "0x1", "1.0", "1,2", "'0'"} {
		checkLines(t, "cells "+word+";thread", impl.ErrSyntax, 1)
		checkLines(t, "cells 0 "+word+" 0;thread", impl.ErrSyntax, 1)
		checkLines(t, "cells 0 0 "+word+";thread", impl.ErrSyntax, 1)
	}
	for _, p := range []string{"cells 0 -1 999999999999999999 -999999999999999999", "cells    0    -1 999999999999999999  -999999999999999999  "} {
		if got, code, _ := impl.ReadProg(p + "\nthread"); code != impl.OK || toldInts(got.Init) != "0 -1 999999999999999999 -999999999999999999" {
			t.Error(p, showCells(got))
		}
	}
}

func TestReadProgThreads(t *testing.T) {
	for count, code := range []int{impl.ErrSyntax, impl.OK, impl.OK, impl.OK, impl.OK, impl.ErrMany, impl.ErrMany} {
		line := map[int]int{impl.ErrSyntax: 2, impl.ErrMany: 6}[code]
		checkLines(t, "cells 0"+strings.Repeat(";thread", count)+map[bool]string{true: ";"}[count == 0], code, line)
	}
	checkLines(t, "cells 0;thread 0", impl.ErrSyntax, 2)
	checkLines(t, "cells 0;thread;thread thread", impl.ErrSyntax, 3)
	checkLines(t, "cells 0;threads", impl.ErrSyntax, 2)
	checkLines(t, "cells 0;Thread", impl.ErrSyntax, 2)
	checkLines(t, "cells 0; thread;  thread;   thread   ;thread # one", impl.OK, 0)
	// A fifth thread that has a word too many is none of these lines.
	checkLines(t, "cells 0;thread;thread;thread;thread;thread x", impl.ErrSyntax, 6)
	checkLines(t, "cells 0;thread;thread;thread;thread;;#;thread;x", impl.ErrMany, 8)
	checkLines(t, "cells 0;thread;thread;thread;thread;x;thread", impl.ErrSyntax, 6)
}

func TestReadProgInstructions(t *testing.T) {
	checkLines(t, "cells 0;fence;thread", impl.ErrSyntax, 2)
	checkLines(t, "cells 0;load r1 c0 seq;thread", impl.ErrSyntax, 2)
	for count := 38; count <= 43; count++ {
		code, line := impl.OK, 0
		if count > 40 {
			code, line = impl.ErrMany, 43
		}
		checkLines(t, "cells 0;thread"+strings.Repeat(";fence", count), code, line)
		// Each thread has its own.
		if code != impl.OK {
			line = 43 + 41
		}
		checkLines(t, "cells 0;thread"+strings.Repeat(";fence", 40)+";thread"+strings.Repeat(";fence", count), code, line)
	}
	full := "cells 0;thread" + strings.Repeat(";fence", 40)
	// What is no instruction has its own code, number 41 too.
	checkLines(t, full+";fence 0", impl.ErrSyntax, 43)
	checkLines(t, full+";load r1 c1 seq", impl.ErrSyntax, 43)
	checkLines(t, full+";x", impl.ErrSyntax, 43)
	checkLines(t, full+";cells 0", impl.ErrSyntax, 43)
	checkLines(t, full+";jump 0 == 0 99", impl.ErrMany, 43)
	checkLines(t, full+";;# no more;fence;x", impl.ErrMany, 45)
	checkLines(t, full+";thread;fence", impl.OK, 0)
}

// Each instruction with a word less, a word twice, a word more at each place.
func TestReadProgWordsTooManyOrTooFew(t *testing.T) {
	for _, c := range insTexts {
		words := strings.Fields(c.text)
		checkReadText(t, eightCells+"thread\n"+c.text+"\nfence", impl.OK, 0)
		for at := range words {
			rest := slices.Delete(slices.Clone(words), at, at+1)
			if len(rest) > 0 {
				checkReadText(t, eightCells+"thread\n"+strings.Join(rest, " ")+"\nfence", impl.ErrSyntax, 3)
			}
			for _, more := range []string{words[at], "0", "r1", "c0", "seq", "==", "x"} {
				text := strings.Join(slices.Insert(slices.Clone(words), at, more), " ")
				checkReadText(t, eightCells+"thread\nfence\n"+text+"\nfence", impl.ErrSyntax, 4)
			}
		}
		checkReadText(t, eightCells+"thread\n"+c.text+" 0\nfence", impl.ErrSyntax, 3)
		checkReadText(t, eightCells+"thread\n"+c.text+" "+c.text+"\nfence", impl.ErrSyntax, 3)
	}
}

// Each word of each instruction turned into each other word: as the second telling has it, which has no word that is not told.
func TestReadProgOtherWords(t *testing.T) {
	others := slices.Concat(cellOps[1:], cellOrders[1:], cellConds[1:], wrongDigits, []string{
		"r0", "r1", "r6", "r7", "r01", "r-1", "r10", "r1.", "R1", "r", "rr1", "r+1", "r1r", "c0", "c7", "c8", "c00", "c07", "c-0", "c-1", "c", "C0", "cc0", "c1c",
		"0", "1", "-1", "2", "3", "99", "100", "999", "999999999999999999", "1000000000000000000", "-999999999999999999", "-1000000000000000000", "9223372036854775807",
		">", ">=", "=", "=<", "!", "===", "<>", "Relaxed", "SEQ", "acq", "rel", "bothh", "release,", "\t", "\r", "x\ty", "\v", "\x00", "\u00a0", "é", "\xff", "load r1",
	})
	counts := map[int]int{}
	for _, c := range insTexts {
		words := strings.Fields(c.text)
		for at := range words {
			for _, other := range others {
				turned := slices.Clone(words)
				turned[at] = other
				code, line := checkReadAlike(t, eightCells+"thread\n"+strings.Join(turned, " ")+"\nfence")
				if code != impl.OK && line != 3 {
					t.Errorf("%q: line %d", strings.Join(turned, " "), line)
				}
				counts[code]++
			}
		}
	}
	if min(counts[impl.OK], counts[impl.ErrSyntax], counts[impl.ErrRange]) < 10 || len(counts) != 3 {
		t.Errorf("codes %v", counts)
	}
}

// Orders by the instruction.
func TestReadProgOrders(t *testing.T) {
	for _, c := range []struct{ text, orders string }{
		{"load r1 c0 ", "relaxed acquire seq"}, {"await r1 c0 == 1 ", "relaxed acquire seq"}, {"store c0 1 ", "relaxed release seq"},
		{"swap r1 c0 1 ", "relaxed acquire release both seq"}, {"add r1 c0 1 ", "relaxed acquire release both seq"}, {"cas r1 c0 1 2 ", "relaxed acquire release both seq"},
	} {
		for _, order := range []string{"relaxed", "acquire", "release", "both", "seq"} {
			if slices.Contains(strings.Fields(c.orders), order) {
				checkLines(t, "cells 0;thread;"+c.text+order, impl.OK, 0)
			} else {
				checkLines(t, "cells 0;thread;"+c.text+order, impl.ErrSyntax, 3)
			}
		}
	}
}

func TestReadProgCellsThatAreThere(t *testing.T) {
	for count := 1; count <= 8; count++ {
		for cell := range 10 {
			text := "cells" + strings.Repeat(" 0", count) + "\nthread\nfence\nload r1 c" + strconv.Itoa(cell) + " seq"
			if cell < count {
				checkReadText(t, text, impl.OK, 0)
			} else {
				checkReadText(t, text, impl.ErrSyntax, 4)
			}
		}
	}
}

func TestReadProgNumbers(t *testing.T) {
	places := []string{"cells 0 %;thread", "cells %;thread", "cells 0;thread;store c0 % seq", "cells 0;thread;set r1 %", "cells 0;thread;jump % == 0 0", "cells 0;thread;jump 0 == % 0", "cells 0;thread;jump 0 == 0 %", "cells 0;thread;call % 0", "cells 0;thread;call 0 %", "cells 0;thread;cas r1 c0 % 0 seq", "cells 0;thread;cas r1 c0 0 % seq", "cells 0;thread;await r1 c0 < % seq", "cells 0;thread;assert % < %", "cells 0;thread;ret %"}
	for _, place := range places {
		line := strings.Count(place, ";") + 1
		if strings.HasSuffix(place, ";thread") {
			line = 1
		}
		for _, word := range wrongDigits {
			if strings.ContainsAny(word, " \n") || word == "" {
				continue
			}
			checkLines(t, strings.ReplaceAll(place, "%", word), impl.ErrSyntax, line)
		}
		checkLines(t, strings.ReplaceAll(place, "%", "0"), impl.OK, 0)
	}
	for n, code := range map[string]int{"-1": impl.ErrSyntax, "0": impl.OK, "9": impl.OK, "99": impl.OK, "100": impl.ErrSyntax, "-99": impl.ErrSyntax, "999999999999999999": impl.ErrSyntax, "r1": impl.ErrSyntax} {
		checkLines(t, "cells 0;thread;call "+n+" 0", code, 3*code/impl.ErrSyntax)
	}
}

// Bytes 32 part words, and no other white space does.
func TestReadProgBlanks(t *testing.T) {
	checkLines(t, "  cells   0 ;   thread ;load     r1   c0  seq  ", impl.OK, 0)
	for _, blank := range []string{"\t", "\r", "\v", "\f", "\x00", "\u0085", "\u00a0", "\u2003", "\ufeff", "\xa0"} {
		checkLines(t, "cells"+blank+"0;thread", impl.ErrSyntax, 1)
		checkLines(t, "cells 0"+blank+";thread", impl.ErrSyntax, 1)
		checkLines(t, blank+"cells 0;thread", impl.ErrSyntax, 1)
		checkLines(t, "cells 0;thread"+blank, impl.ErrSyntax, 2)
		checkLines(t, "cells 0;thread;load"+blank+"r1 c0 seq", impl.ErrSyntax, 3)
		checkLines(t, "cells 0;thread;load r1 "+blank+" c0 seq", impl.ErrSyntax, 3)
		checkLines(t, "cells 0;thread;fence"+blank, impl.ErrSyntax, 3)
		checkLines(t, "cells 0;thread;"+blank, impl.ErrSyntax, 3)
		checkLines(t, "cells 0;thread;"+blank+";x", impl.ErrSyntax, 3)
		checkLines(t, "cells 0;#"+blank+";thread;#"+blank+"#", impl.OK, 0)
	}
}

func TestReadProgRemarks(t *testing.T) {
	checkLines(t, "# a;cells 0#b;#;thread # thread;#load;load r1 c0 seq#x;fence ## y # z;#", impl.OK, 0)
	checkLines(t, "cells 0 # 1 2;thread#;fence#fence", impl.OK, 0)
	if p, _, _ := impl.ReadProg("cells 0 # 1 2\nthread#\nfence#fence"); len(p.Init) != 1 || len(p.Threads[0]) != 1 {
		t.Error(showCells(p))
	}
	checkLines(t, "cel#ls 0;thread", impl.ErrSyntax, 1)
	checkLines(t, "cells# 0;thread", impl.ErrSyntax, 1)
	checkLines(t, "cells 0;thr#ead", impl.ErrSyntax, 2)
	checkLines(t, "cells 0;thread;load r1 c0 rel#axed", impl.ErrSyntax, 3)
	checkLines(t, "cells 0;thread;load r1 c0 # seq", impl.ErrSyntax, 3)
	checkLines(t, "cells 0;thread;set r1 1#0", impl.OK, 0)
	if p, _, _ := impl.ReadProg("cells 0\nthread\nset r1 1#0"); p.Threads[0][0].A.Num != 1 {
		t.Error(showCells(p))
	}
	checkLines(t, "#cells 0;thread", impl.ErrSyntax, 2)
	checkLines(t, "cells 0;#thread", impl.ErrSyntax, 2)
	checkLines(t, "cells 0;#thread;", impl.ErrSyntax, 3)
}

// A text that ends without cells or without a thread: its bytes 10, and one.
func TestReadProgEndsEarly(t *testing.T) {
	for text, line := range map[string]int{
		"": 1, "\n": 2, "\n\n\n": 4, " ": 1, " \n ": 2, "#": 1, "# cells 0\n": 2, "#\n#\n#": 3,
		"cells 0": 1, "cells 0\n": 2, "\ncells 0\n\n": 4, "cells 0\n# thread\n  \n": 4,
	} {
		checkReadText(t, text, impl.ErrSyntax, line)
	}
	checkReadText(t, "cells 0\nthread", impl.OK, 0)
	checkReadText(t, "cells 0\nthread\n", impl.OK, 0)
	checkReadText(t, "cells 0\nthread\n\n\n", impl.OK, 0)
	checkReadText(t, "cells 0\nthread\nfence", impl.OK, 0)
}

func TestReadProgJumps(t *testing.T) {
	checkLines(t, "cells 0;thread;jump 0 == 0 0", impl.OK, 0)
	checkLines(t, "cells 0;thread;jump 0 == 0 1", impl.OK, 0)
	checkLines(t, "cells 0;thread;jump 0 == 0 2", impl.ErrRange, 3)
	checkLines(t, "cells 0;thread;jump 0 == 0 2;fence", impl.OK, 0)
	checkLines(t, "cells 0;thread;jump 0 == 0 3;fence", impl.ErrRange, 3)
	checkLines(t, "cells 0;thread;jump 0 == 0 3;;# no;fence;;fence", impl.OK, 0)
	checkLines(t, "cells 0;thread;jump 0 == 0 -1", impl.ErrSyntax, 3)
	checkLines(t, "cells 0;thread;jump 0 == 0 999999999999999999", impl.ErrRange, 3)
	checkLines(t, "cells 0;thread;jump 0 == 0 1000000000000000000", impl.ErrSyntax, 3)
	// The instructions are its thread's own.
	checkLines(t, "cells 0;thread;jump 0 == 0 2;thread;fence;fence;fence", impl.ErrRange, 3)
	checkLines(t, "cells 0;thread;fence;fence;fence;thread;jump 0 == 0 2", impl.ErrRange, 7)
	checkLines(t, "cells 0;thread;fence;thread;;jump 0 == 0 1;thread;jump 0 == 0 2", impl.ErrRange, 8)
	// The first line of several.
	checkLines(t, "cells 0;thread;jump 0 == 0 1;jump 0 == 0 9;jump 0 == 0 8;thread;jump 0 == 0 7", impl.ErrRange, 4)
	checkLines(t, "cells 0;thread;fence;thread;jump 0 == 0 9;thread;jump 0 == 0 9", impl.ErrRange, 5)
	// All other faults come ahead.
	checkLines(t, "cells 0;thread;jump 0 == 0 9;x", impl.ErrSyntax, 4)
	checkLines(t, "cells 0;thread;jump 0 == 0 9;thread;thread;thread;thread", impl.ErrMany, 7)
	checkLines(t, "cells 0;thread;jump 0 == 0 99"+strings.Repeat(";fence", 40), impl.ErrMany, 43)
	checkLines(t, "cells 0;thread;jump 0 == 0 9;thread;load r1 c1 seq", impl.ErrSyntax, 5)
	checkLines(t, "cells 0;thread;jump 0 == 0 9;cells 0", impl.ErrSyntax, 4)
	checkLines(t, "cells 0;thread;jump 0 == 0 40"+strings.Repeat(";fence", 39), impl.OK, 0)
	checkLines(t, "cells 0;thread;jump 0 == 0 41"+strings.Repeat(";fence", 39), impl.ErrRange, 3)
}

// The first line at fault, whichever its fault is.
func TestReadProgFirstFault(t *testing.T) {
	checkLines(t, "x;cells 0;thread", impl.ErrSyntax, 1)
	checkLines(t, "cells 0;thread;x;y", impl.ErrSyntax, 3)
	checkLines(t, "cells 0;thread;thread;thread;thread;thread;x", impl.ErrMany, 6)
	checkLines(t, "cells 0;thread;thread;thread;x;thread;thread", impl.ErrSyntax, 5)
	checkLines(t, "cells 0;thread"+strings.Repeat(";fence", 41)+";thread;thread;thread;thread", impl.ErrMany, 43)
	checkLines(t, ";;x", impl.ErrSyntax, 3)
}

// spaced writes a text's lines with remarks, empty lines and more blanks between.
func spaced(s source, text string) string {
	var out []string
	blanks := func(least int) string { return strings.Repeat(" ", least+s.IntN(4)) }
	empty := []string{"", " ", "   ", "#", "  # cells 0", "# thread", "#\t\r\v load", "##", "#é\xff"}
	for _, line := range strings.Split(text, "\n") {
		for s.IntN(5) == 0 {
			out = append(out, pick(s, empty))
		}
		turned := blanks(0)
		for _, word := range strings.Fields(line) {
			turned += word + blanks(1)
		}
		if s.IntN(2) == 0 {
			turned = strings.TrimRight(turned, " ")
		}
		if s.IntN(4) == 0 {
			turned += pick(s, []string{"#", "# fence", "#1", " ## x", "#\xff\t"})
		}
		out = append(out, turned)
	}
	return strings.Join(out, "\n")
}

// P13: a right program is read from its text as it was, also with remarks, empty lines and more blanks between.
func TestProgsAreReadAsTheyWere(t *testing.T) {
	s := newSource()
	for i := range 3000 {
		p := anyCells(s, i%3 == 0, i%5 == 0)
		text, code := impl.ProgText(p)
		if want, _ := wantProgText(p); code != impl.OK || text != want {
			t.Fatalf("%s: %q", impl.CodeWord(code), text)
		}
		for _, one := range []string{text, strings.TrimSuffix(text, "\n"), spaced(s, text), strings.ReplaceAll(text, "  ", "")} {
			again, code, line := impl.ReadProg(one)
			if code != impl.OK || line != 0 || !isSameProg(again, p) {
				t.Fatalf("%q: %s at %d", one, impl.CodeWord(code), line)
			}
		}
	}
}

// P13: each beginning of a text's lines is read, or refused at a line that is there or behind the last one: for want of a thread, or at a jump whose end is missing.
func TestBeginningsOfProgs(t *testing.T) {
	s := newSource()
	counts := map[int]int{}
	for i := range 250 {
		p := anyCells(s, i%3 == 0, false)
		text, _ := impl.ProgText(p)
		lines := strings.SplitAfter(text, "\n")
		for count := range lines {
			begun := strings.Join(lines[:count], "")
			got, code, line := impl.ReadProg(begun)
			counts[code]++
			switch {
			case code == impl.OK && line == 0:
				checkReadBack(t, got)
			case code == impl.ErrSyntax && line == count+1 && !strings.Contains(begun, "thread"):
			case code == impl.ErrRange && 1 <= line && line <= count && strings.HasPrefix(lines[line-1], "  jump "):
			default:
				t.Fatalf("%q: %s at %d", begun, impl.CodeWord(code), line)
			}
			checkReadAlike(t, begun)
		}
	}
	if min(counts[impl.OK], counts[impl.ErrSyntax], counts[impl.ErrRange]) < 200 || len(counts) != 3 {
		t.Errorf("codes %v", counts)
	}
}

// turnText turns a word, a line or a byte of a text.
func turnText(s source, text string) string {
	lines := strings.Split(text, "\n")
	at := s.IntN(len(lines))
	switch s.IntN(6) {
	case 0:
		return strings.Join(turnedList(s, lines, []string{"", "thread", "cells 0 0", "fence", "x", "jump 0 == 0 7", "load r1 c0 seq", "#"}), "\n")
	case 1:
		if len(text) == 0 {
			return text
		}
		bytes := []byte(text)
		bytes[s.IntN(len(bytes))] = pick(s, []byte(" #\t\n01289crs=<!-x\x00\xff"))
		return string(bytes)
	case 2:
		if len(text) == 0 {
			return text
		}
		return text[:s.IntN(len(text))]
	}
	words := turnedList(s, strings.Fields(lines[at]), []string{"r1", "r7", "c0", "c7", "0", "-1", "99", "100", "seq", "both", "release", "==", "<=", "load", "jump", "#", "thread", "1000000000000000000"})
	lines[at] = strings.Join(words, " ")
	return strings.Join(lines, "\n")
}

func TestReadProgOfTurnedTexts(t *testing.T) {
	s := newSource()
	counts := map[int]int{}
	for i := range 12000 {
		text, _ := impl.ProgText(anyCells(s, i%4 != 0, false))
		for range 1 + s.IntN(3) {
			text = turnText(s, text)
		}
		code, _ := checkReadAlike(t, text)
		counts[code]++
	}
	if min(counts[impl.OK], counts[impl.ErrSyntax], counts[impl.ErrRange]) < 50 || counts[impl.ErrMany] < 20 || len(counts) != 4 {
		t.Errorf("codes %v", counts)
	}
}

// Lines put together of any words.
func TestReadProgOfAnyLines(t *testing.T) {
	s := newSource()
	words := []string{"cells", "thread", "load", "store", "fence", "set", "jump", "r1", "r2", "c0", "c1", "0", "1", "-1", "==", "<", "seq", "relaxed", "#", "\t", "ret", "call"}
	for range 20000 {
		text := ""
		if s.IntN(2) == 0 {
			text = "cells 0\nthread\n"
		}
		for range s.IntN(12) {
			text += pick(s, words) + pick(s, []string{" ", " ", " ", "\n", ""})
		}
		checkReadAlike(t, text)
	}
	for range 3000 {
		checkReadAlike(t, s.bytes(60))
	}
}
