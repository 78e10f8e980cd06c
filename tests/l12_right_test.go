package tests

import (
	"math"
	"slices"
	"strconv"
	"strings"
	"testing"

	"loop.example/g00045/impl"
)

func TestCellConstants(t *testing.T) {
	for i, n := range []int{impl.CoLoad, impl.CoStore, impl.CoSwap, impl.CoAdd, impl.CoCas, impl.CoAwait, impl.CoFence, impl.CoSet, impl.CoSum, impl.CoJump, impl.CoCall, impl.CoRet, impl.CoAssert} {
		if n != i+1 {
			t.Errorf("instruction %d is %d", i+1, n)
		}
	}
	for i, n := range []int{impl.OrRelaxed, impl.OrAcquire, impl.OrRelease, impl.OrBoth, impl.OrSeq} {
		if n != i+1 {
			t.Errorf("order %d is %d", i+1, n)
		}
	}
	for i, n := range []int{impl.CnEq, impl.CnNe, impl.CnLt, impl.CnLe} {
		if n != i+1 {
			t.Errorf("condition %d is %d", i+1, n)
		}
	}
	got := []int{impl.MaxCells, impl.MaxThreads, impl.MaxCode, impl.MaxRegs, impl.MaxQuiet, impl.MaxTurns, impl.MaxMessages}
	if !slices.Equal(got, []int{8, 4, 40, 6, 100, 200, 50}) {
		t.Errorf("bounds %v", got)
	}
}

// checkProg: ProgOK, and the other calls, which have ErrBad just where it is not right; a right one is read from its text as it was.
func checkProg(t *testing.T, what string, p impl.Prog, want bool) {
	t.Helper()
	if isOneProg(p) != want {
		t.Fatalf("%s: the second telling has %t\n%s", what, !want, showCells(p))
	}
	if impl.ProgOK(p) != want {
		t.Errorf("%s: ProgOK %t\n%s", what, !want, showCells(p))
		return
	}
	checkSameCells(t, p, nil)
	if want {
		checkReadBack(t, p)
	}
}

func checkReadBack(t *testing.T, p impl.Prog) {
	t.Helper()
	text, code := impl.ProgText(p)
	again, readCode, line := impl.ReadProg(text)
	if code != impl.OK || readCode != impl.OK || line != 0 || showCells(again) != showCells(p) || !isSameProg(again, p) {
		t.Fatalf("%s: %s; read: %s at %d\n%s", showCells(p), impl.CodeWord(code), impl.CodeWord(readCode), line, showCells(again))
	}
}

func isSameProg(a, b impl.Prog) bool {
	return slices.Equal(a.Init, b.Init) && slices.EqualFunc(a.Threads, b.Threads, slices.Equal[[]impl.Ins])
}

func fences(count int) []impl.Ins { return repeated(count, impl.Ins{Op: impl.CoFence}) }

func TestProgOKHowManyCells(t *testing.T) {
	for _, count := range []int{0, 1, 2, 7, 8, 9, 10, 16, 4096, 4097, millions} {
		for _, threads := range [][][]impl.Ins{{nil}, {fences(1), fences(2)}} {
			checkProg(t, strconv.Itoa(count)+" cells", impl.Prog{Init: repeated(count, 3), Threads: threads}, 1 <= count && count <= 8)
		}
	}
	checkProg(t, "no cells", impl.Prog{Init: []int{}, Threads: [][]impl.Ins{{}}}, false)
	checkProg(t, "nothing", impl.Prog{}, false)
}

func TestProgOKHowManyThreads(t *testing.T) {
	for _, count := range []int{0, 1, 2, 3, 4, 5, 6, 40, 4096, 4097, millions} {
		for _, code := range [][]impl.Ins{nil, {}, fences(1), fences(40)} {
			checkProg(t, strconv.Itoa(count)+" threads", impl.Prog{Init: []int{0}, Threads: repeated(count, code)}, 1 <= count && count <= 4)
		}
	}
}

func TestProgOKHowManyInstructions(t *testing.T) {
	for _, count := range []int{0, 1, 2, 39, 40, 41, 42, 160, 4096, 4097, millions} {
		right := count <= 40
		checkProg(t, strconv.Itoa(count)+" instructions", impl.Prog{Init: []int{0}, Threads: [][]impl.Ins{fences(count)}}, right)
		checkProg(t, strconv.Itoa(count)+" instructions", impl.Prog{Init: []int{0}, Threads: [][]impl.Ins{fences(1), fences(count)}}, right)
		checkProg(t, strconv.Itoa(count)+" instructions", impl.Prog{Init: []int{0}, Threads: [][]impl.Ins{fences(count), nil, nil, fences(40)}}, right)
	}
}

// plainIns: a right one of each Op, and none of its named fields is zero where it may be other than that.
func plainIns(op int) impl.Ins {
	x := impl.Ins{Op: op}
	for _, field := range strings.Fields(cellFields[op]) {
		switch field {
		case "Reg":
			x.Reg = 3
		case "Cell":
			x.Cell = 2
		case "A":
			x.A = impl.Val{Num: -5}
		case "B":
			x.B = impl.Val{Reg: 2}
		case "Order":
			x.Order = impl.OrSeq
		case "Cond":
			x.Cond = impl.CnLt
		case "To":
			x.To = 4
		}
	}
	return x
}

// withIns puts an instruction at each place of a program with four cells, in threads of six instructions.
func withIns(x impl.Ins) []impl.Prog {
	var out []impl.Prog
	for _, place := range [][2]int{{0, 0}, {0, 5}, {1, 3}, {2, 0}} {
		p := impl.Prog{Init: []int{0, 1, 2, 3}, Threads: [][]impl.Ins{fences(6), fences(6), fences(6)}}
		p.Threads[place[0]][place[1]] = x
		out = append(out, p)
	}
	return out
}

func checkIns(t *testing.T, x impl.Ins, want bool) {
	t.Helper()
	for _, p := range withIns(x) {
		checkProg(t, toldRawIns(x), p, want)
	}
}

func TestProgOKOps(t *testing.T) {
	for op := 1; op <= 13; op++ {
		checkIns(t, plainIns(op), true)
	}
	wrong := slices.Concat([]int{0, 14, 15, 77, -1, -13, math.MaxInt, math.MinInt, math.MaxInt - 1, 1 << 32, 1<<32 + 7}, anyNumbers)
	for _, op := range wrong {
		if 1 <= op && op <= 13 {
			continue
		}
		checkIns(t, impl.Ins{Op: op}, false)
		for k := 1; k <= 13; k++ {
			x := plainIns(k)
			x.Op = op
			checkIns(t, x, false)
		}
	}
}

// Fields of one Op with another one: it must name them all, and of those that it names besides some may be zero.
func TestProgOKOtherOps(t *testing.T) {
	for op := 1; op <= 13; op++ {
		for other := 1; other <= 13; other++ {
			x := plainIns(op)
			x.Op = other
			fields, named := strings.Fields(cellFields[op]), strings.Fields(cellFields[other])
			isMissed := func(field string) bool { return !slices.Contains(named, field) }
			isOpen := func(field string) bool {
				return !slices.Contains(fields, field) && !slices.Contains([]string{"Cell", "A", "B", "To"}, field)
			}
			checkIns(t, x, !slices.ContainsFunc(fields, isMissed) && !slices.ContainsFunc(named, isOpen))
		}
	}
}

// fieldTurns: each way to turn one field of an instruction.
var fieldTurns = map[string]func(x *impl.Ins, n int){
	"Reg":   func(x *impl.Ins, n int) { x.Reg = n },
	"Cell":  func(x *impl.Ins, n int) { x.Cell = n },
	"A":     func(x *impl.Ins, n int) { x.A = impl.Val{Num: n} },
	"B":     func(x *impl.Ins, n int) { x.B = impl.Val{Num: n} },
	"Order": func(x *impl.Ins, n int) { x.Order = n },
	"Cond":  func(x *impl.Ins, n int) { x.Cond = n },
	"To":    func(x *impl.Ins, n int) { x.To = n },
}

// Each field of each instruction with each number; a field that it does not name is zero.
func TestProgOKFields(t *testing.T) {
	numbers := slices.Concat([]int{math.MinInt, -100, -6, -5, -3, -2, -1, 0, 1, 2, 3, 4, 5, 6, 7, 8, 9, 40, 41, 98, 99, 100, 101, 199, 256, 257, 1 << 32, 1<<32 + 1, math.MaxInt}, anyNumbers)
	for op := 1; op <= 13; op++ {
		named := strings.Fields(cellFields[op])
		for field, turn := range fieldTurns {
			for _, n := range numbers {
				x := plainIns(op)
				turn(&x, n)
				want := n == 0
				if slices.Contains(named, field) {
					want = map[string]bool{
						"Reg": 1 <= n && n <= 6, "Cell": 0 <= n && n <= 3, "A": isOneNumber(n), "B": isOneNumber(n),
						"Order": slices.Contains(opOrders(op), n), "Cond": 1 <= n && n <= 4,
						"To": 0 <= n && (op == impl.CoJump && n <= 6 || op == impl.CoCall && n <= 99),
					}[field]
				}
				checkIns(t, x, want)
			}
		}
	}
}

// Of a value that is named the registers are 1 to 6, and Num is 0 with each; of one that is not named both are 0.
func TestProgOKValues(t *testing.T) {
	for op := 1; op <= 13; op++ {
		named := strings.Fields(cellFields[op])
		for _, field := range []string{"A", "B"} {
			for _, reg := range slices.Concat([]int{-1, 0, 1, 2, 3, 4, 5, 6, 7, 8, 10, -6, math.MinInt, math.MaxInt, 1<<32 + 1}, anyNumbers) {
				for _, num := range []int{0, 1, -1, 6, 999999999999999999, math.MaxInt} {
					x := plainIns(op)
					want := reg == 0 && num == 0
					if slices.Contains(named, field) {
						want = reg == 0 && num != math.MaxInt || num == 0 && 1 <= reg && reg <= 6
					}
					if field == "A" {
						x.A = impl.Val{Reg: reg, Num: num}
					} else {
						x.B = impl.Val{Reg: reg, Num: num}
					}
					checkIns(t, x, want)
				}
			}
		}
	}
}

// A number's text has at most 18 digits.
func TestProgOKNumbersWithoutText(t *testing.T) {
	for n, want := range map[int]bool{
		0: true, -1: true, 9: true, -10: true, 999999999999999998: true, 999999999999999999: true, -999999999999999998: true, -999999999999999999: true,
		1000000000000000000: false, -1000000000000000000: false, 1000000000000000001: false, -1000000000000000001: false,
		math.MaxInt: false, math.MinInt: false, math.MaxInt - 1: false, math.MinInt + 1: false, 1 << 60: false, 1 << 62: false, -1 << 62: false, 1<<59 + 1: true,
	} {
		for op := 1; op <= 13; op++ {
			x := plainIns(op)
			if strings.Contains(cellFields[op], "A") {
				x.A = impl.Val{Num: n}
				checkIns(t, x, want)
			}
			if strings.Contains(cellFields[op], "B") {
				x = plainIns(op)
				x.B = impl.Val{Num: n}
				checkIns(t, x, want)
			}
		}
		for count := 1; count <= 8; count++ {
			for at := range count {
				p := impl.Prog{Init: make([]int, count), Threads: [][]impl.Ins{nil}}
				p.Init[at] = n
				checkProg(t, "first values", p, want)
			}
		}
	}
}

// A jump may go to its thread's end, not behind it; other threads may be longer.
func TestProgOKJumps(t *testing.T) {
	for _, count := range []int{1, 2, 6, 39, 40} {
		for at := range count {
			for _, to := range []int{math.MinInt, -2, -1, 0, 1, at, count - 1, count, count + 1, 40, 41, 99, 100, math.MaxInt} {
				p := impl.Prog{Init: []int{0}, Threads: [][]impl.Ins{fences(40), fences(count), fences(40)}}
				p.Threads[1][at] = impl.Ins{Op: impl.CoJump, Cond: impl.CnEq, To: to}
				checkProg(t, "a jump to "+strconv.Itoa(to)+" of "+strconv.Itoa(count), p, 0 <= to && to <= count)
			}
		}
	}
}

// A cell is one of the program's own.
func TestProgOKCells(t *testing.T) {
	for count := 1; count <= 8; count++ {
		for op := 1; op <= 6; op++ {
			for cell := -1; cell <= 9; cell++ {
				x := plainIns(op)
				x.Cell = cell
				p := impl.Prog{Init: make([]int, count), Threads: [][]impl.Ins{{x}}}
				checkProg(t, "cell "+strconv.Itoa(cell)+" of "+strconv.Itoa(count), p, 0 <= cell && cell < count)
			}
		}
	}
}

// turnCells turns one thing of a program, as often into something right as into something wrong.
func turnCells(s source, p impl.Prog) impl.Prog {
	p = tidyProg(p)
	switch s.IntN(8) {
	case 0:
		p.Init = turnedList(s, p.Init, cellValues)
		return p
	case 1:
		p.Threads = turnedList(s, p.Threads, [][]impl.Ins{nil, fences(3), fences(41)})
		return p
	case 2:
		if len(p.Init) > 0 {
			p.Init[s.IntN(len(p.Init))] = pick(s, wrongNumbers)
		}
		return p
	}
	if len(p.Threads) == 0 {
		return p
	}
	code := &p.Threads[s.IntN(len(p.Threads))]
	if len(*code) == 0 || s.IntN(5) == 0 {
		*code = turnedList(s, *code, []impl.Ins{{}, {Op: 7}, plainIns(1 + s.IntN(13))})
		return p
	}
	x := &(*code)[s.IntN(len(*code))]
	switch s.IntN(10) {
	case 0:
		x.Op = turnedNumber(s, x.Op)
	case 1:
		x.Cell = turnedNumber(s, x.Cell)
	case 2:
		x.Reg = turnedNumber(s, x.Reg)
	case 3:
		x.A.Reg = turnedNumber(s, x.A.Reg)
	case 4:
		x.A.Num = turnedNumber(s, x.A.Num)
	case 5:
		x.B.Reg = turnedNumber(s, x.B.Reg)
	case 6:
		x.B.Num = turnedNumber(s, x.B.Num)
	case 7:
		x.Order = turnedNumber(s, x.Order)
	case 8:
		x.Cond = turnedNumber(s, x.Cond)
	case 9:
		x.To = turnedNumber(s, x.To)
	}
	return p
}

func TestProgOKOfTurnedPrograms(t *testing.T) {
	s := newSource()
	var counts [2]int
	for i := range 6000 {
		p := anyCells(s, i%2 == 0, i%5 == 0)
		for range 1 + s.IntN(4) {
			p = turnCells(s, p)
		}
		want := isOneProg(p)
		checkProg(t, "turned", p, want)
		if want {
			counts[1]++
		} else {
			counts[0]++
		}
	}
	if min(counts[0], counts[1]) < 1000 {
		t.Errorf("wrong and right %v", counts)
	}
}
