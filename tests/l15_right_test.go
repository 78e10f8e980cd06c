package tests

import (
	"math"
	"slices"
	"testing"

	"loop.example/g00045/impl"
)

// rightEnd: an end that is right, with other numbers wherever none is named.
func rightEnd(kind, threads int) impl.End {
	e := impl.End{}
	for thread := range threads {
		e.Regs = append(e.Regs, []int{1 + thread, -3, 9, math.MaxInt, math.MinInt, 4})
	}
	for cell := range (len(kitCells[kind]) + 1) / 2 {
		value, isNamed := rightCells(kind, threads)[cell]
		if !isNamed {
			value = 31 + cell
		}
		e.Cells = append(e.Cells, value)
	}
	return e
}

// rightKinds: all kinds with all numbers of threads that they are for.
func rightKinds() []kitForm {
	return slices.DeleteFunc(allForms(), func(f kitForm) bool { return f.broken != 0 })
}

func checkKitRight(t *testing.T, kind, threads int, e impl.End, want bool) {
	t.Helper()
	if isRight, code := impl.KitRight(kind, threads, e); isRight != want || code != impl.OK {
		t.Errorf("%d %d: %t %s, not %t: %s", kind, threads, isRight, impl.CodeWord(code), want, toldEnd(e))
	}
	if told, code := wantKitRight(kind, threads, e); told != want || code != impl.OK {
		t.Fatalf("%d %d: the second telling has %t: %s", kind, threads, told, toldEnd(e))
	}
}

// withRegs, withCells: the end with that part turned; all else stays.
func withRegs(e impl.End, regs [][]int) impl.End {
	e.Regs = regs
	return e
}

func withCells(e impl.End, cells []int) impl.End {
	e.Cells = cells
	return e
}

func withNumber(list []int, at, number int) []int {
	list = slices.Clone(list)
	list[at] = number
	return list
}

// otherValues: numbers that are not this one.
func otherValues(value int) []int {
	list := slices.Concat(kitNumbers, []int{value - 1, value + 1, -value, value + 1<<32, value - 1<<32, value ^ math.MinInt})
	return slices.DeleteFunc(list, func(n int) bool { return n == value })
}

func TestKitRightOfRightEnds(t *testing.T) {
	for _, f := range rightKinds() {
		checkKitRight(t, f.kind, f.threads, rightEnd(f.kind, f.threads), true)
	}
	// By hand: of each kind what its last cells must be.
	six := func(first int) []int { return []int{first, 0, 0, 0, 0, 0} }
	regs := [][]int{six(1), six(2), six(0)}
	for _, c := range []struct {
		kind, threads int
		cells         []int
	}{
		{impl.KtSpin, 1, []int{0, 1}}, {impl.KtSpin, 1, []int{1, 1}}, {impl.KtSpin, 2, []int{0, 2}}, {impl.KtSpin, 3, []int{-7, 3}},
		{impl.KtTicket, 1, []int{1, 1, 1}}, {impl.KtTicket, 2, []int{0, 0, 2}}, {impl.KtTicket, 3, []int{3, 3, 3}},
		{impl.KtTwo, 2, []int{0, 0, 1, 2}}, {impl.KtTwo, 2, []int{1, 1, 0, 2}},
		{impl.KtOnce, 1, []int{2, 7, 1}}, {impl.KtOnce, 2, []int{0, 0, 1}}, {impl.KtOnce, 3, []int{2, 7, 1}},
		{impl.KtSequence, 2, []int{2, 5, 5}}, {impl.KtSequence, 3, []int{2, 0, 9}},
		{impl.KtPermits, 2, []int{1, 0}},
		{impl.KtBarrier, 2, []int{2, 1, 1, 1, 0}}, {impl.KtBarrier, 3, []int{0, 1, 0, 0, 0}},
		{impl.KtStack, 2, []int{0, 0, 1}}, {impl.KtStack, 2, []int{0, 2, 0}},
		{impl.KtRing, 2, []int{2, 2, 6}}, {impl.KtRing, 2, []int{2, 0, 0}},
		{impl.KtShared, 2, []int{0, 5, 5}}, {impl.KtShared, 3, []int{0, 0, 1}},
	} {
		checkKitRight(t, c.kind, c.threads, impl.End{Regs: regs[:c.threads], Cells: c.cells}, true)
	}
}

// A cell that 'Right' names may be nothing else, one that it does not name anything.
func TestKitRightOfOtherCells(t *testing.T) {
	for _, f := range rightKinds() {
		e := rightEnd(f.kind, f.threads)
		named := rightCells(f.kind, f.threads)
		for cell, value := range e.Cells {
			_, isNamed := named[cell]
			for _, other := range otherValues(value) {
				checkKitRight(t, f.kind, f.threads, withCells(e, withNumber(e.Cells, cell, other)), !isNamed)
			}
		}
	}
	// Both cells of the permits are named: what the one has too much makes up for nothing.
	e := rightEnd(impl.KtPermits, 2)
	for _, cells := range [][]int{{0, 1}, {2, -1}, {0, 0}, {1, 1}, {0, -1}} {
		checkKitRight(t, impl.KtPermits, 2, withCells(e, cells), false)
	}
}

func TestKitRightOfMoreAndFewerCells(t *testing.T) {
	for _, f := range rightKinds() {
		e := rightEnd(f.kind, f.threads)
		last := len(e.Cells) - 1
		lists := [][]int{nil, {}, e.Cells[:last], append(slices.Clip(e.Cells), 0), append(slices.Clip(e.Cells), e.Cells[last]), append(slices.Clip(e.Cells), e.Cells...)}
		for _, cells := range lists {
			checkKitRight(t, f.kind, f.threads, withCells(e, cells), false)
		}
	}
}

func TestKitRightOfMoreAndFewerRegs(t *testing.T) {
	for _, f := range rightKinds() {
		e := rightEnd(f.kind, f.threads)
		for _, regs := range [][][]int{nil, {}, e.Regs[:f.threads-1], e.Regs[1:], append(slices.Clip(e.Regs), e.Regs[0]), append(slices.Clip(e.Regs), make([]int, 6)), append(slices.Clip(e.Regs), nil), append(slices.Clip(e.Regs), e.Regs...)} {
			checkKitRight(t, f.kind, f.threads, withRegs(e, regs), false)
		}
		for thread, row := range e.Regs {
			for _, other := range [][]int{nil, {}, row[:1], row[:5], row[1:], append(slices.Clip(row), 0), append(slices.Clip(row), row...)} {
				regs := slices.Clone(e.Regs)
				regs[thread] = other
				checkKitRight(t, f.kind, f.threads, withRegs(e, regs), false)
			}
		}
	}
}

// One list of registers that is longer makes up for no other one that is shorter.
func TestKitRightOfRegsThatAreSixInTheMiddle(t *testing.T) {
	for _, f := range rightKinds() {
		e := rightEnd(f.kind, f.threads)
		if f.threads > 1 {
			regs := slices.Clone(e.Regs)
			regs[0], regs[f.threads-1] = append(slices.Clip(regs[0]), 0), regs[f.threads-1][:5]
			checkKitRight(t, f.kind, f.threads, withRegs(e, regs), false)
		}
	}
}

func TestKitRightOfBadAndStuck(t *testing.T) {
	for _, f := range rightKinds() {
		e := rightEnd(f.kind, f.threads)
		e.Bad = true
		checkKitRight(t, f.kind, f.threads, e, false)
		e.Bad = false
		for _, stuck := range [][]int{{0}, {1}, {0, 1}, {-1}, {7}, {math.MaxInt}} {
			e.Stuck = stuck
			checkKitRight(t, f.kind, f.threads, e, false)
		}
		e.Stuck = []int{}
		checkKitRight(t, f.kind, f.threads, e, true)
	}
}

// Registers are not asked, but for r1 of the stack's threads.
func TestKitRightOfOtherRegs(t *testing.T) {
	for _, f := range rightKinds() {
		e := rightEnd(f.kind, f.threads)
		for thread, row := range e.Regs {
			for reg, value := range row {
				for _, other := range otherValues(value) {
					regs := slices.Clone(e.Regs)
					regs[thread] = withNumber(row, reg, other)
					checkKitRight(t, f.kind, f.threads, withRegs(e, regs), f.kind != impl.KtStack || reg > 0)
				}
			}
		}
	}
}

// What the two threads of the stack have taken: 1 and 2, in whatever order.
func TestKitRightOfWhatIsTaken(t *testing.T) {
	e := rightEnd(impl.KtStack, 2)
	for _, one := range kitNumbers {
		for _, other := range kitNumbers {
			regs := [][]int{{one, 0, 0, 0, 0, 0}, {other, 0, 0, 0, 0, 0}}
			isRight := one == 1 && other == 2 || one == 2 && other == 1
			checkKitRight(t, impl.KtStack, 2, withRegs(e, regs), isRight)
		}
	}
	// In r2 alone, or with an element left on the stack.
	checkKitRight(t, impl.KtStack, 2, withRegs(e, [][]int{{0, 1, 0, 0, 0, 0}, {0, 2, 0, 0, 0, 0}}), false)
	checkKitRight(t, impl.KtStack, 2, withCells(withRegs(e, [][]int{{2, 0, 0, 0, 0, 0}, {1, 0, 0, 0, 0, 0}}), []int{1, 0, 0}), false)
}

// N is that of the threads asked for: an end that is right for so many is right for no other number.
func TestKitRightForOtherThreads(t *testing.T) {
	for _, f := range rightKinds() {
		e := rightEnd(f.kind, f.threads)
		for threads := kitThreads[f.kind][0]; threads <= kitThreads[f.kind][1]; threads++ {
			checkKitRight(t, f.kind, threads, e, threads == f.threads)
		}
	}
	three := withCells(rightEnd(impl.KtSpin, 3), []int{0, 2})
	checkKitRight(t, impl.KtSpin, 3, three, false)
	checkKitRight(t, impl.KtSpin, 2, withRegs(three, three.Regs[:2]), true)
}

// Ends of any make, right ones with some things turned.
func TestKitRightOfEndsOfAnyMake(t *testing.T) {
	s := newSource()
	counts := map[bool]int{}
	for range 30000 {
		f := pick(s, rightKindsOnce)
		e := rightEnd(f.kind, f.threads)
		for range s.IntN(3) {
			if len(e.Regs) > 0 {
				e = pick(s, otherEnds(e))
			}
		}
		kind, threads := f.kind, f.threads
		if s.IntN(8) == 0 {
			threads = 1 + s.IntN(3)
		}
		if s.IntN(8) == 0 {
			kind = 1 + s.IntN(10)
		}
		want, wantCode := wantKitRight(kind, threads, e)
		if isRight, code := impl.KitRight(kind, threads, e); isRight != want || code != wantCode {
			t.Fatalf("%d %d: %t %s, not %t %s: %s", kind, threads, isRight, impl.CodeWord(code), want, impl.CodeWord(wantCode), toldEnd(e))
		}
		counts[want]++
	}
	if min(counts[true], counts[false]) < 5000 {
		t.Errorf("%v", counts)
	}
}

var rightKindsOnce = rightKinds()

// Lists within an end may be of any length.
func TestKitRightOfEndsThatAreFarTooLong(t *testing.T) {
	for _, f := range rightKinds() {
		e := rightEnd(f.kind, f.threads)
		for _, count := range []int{4096, 4097, 65537, millions} {
			checkLongEnd(t, f, withCells(e, append(slices.Clip(e.Cells), make([]int, count)...)))
			checkLongEnd(t, f, withRegs(e, append(slices.Clip(e.Regs), make([][]int, count)...)))
			checkLongEnd(t, f, withRegs(e, append(slices.Clip(e.Regs[1:]), make([]int, count))))
			checkLongEnd(t, f, impl.End{Regs: e.Regs, Cells: e.Cells, Stuck: make([]int, count)})
		}
	}
}

func checkLongEnd(t *testing.T, f kitForm, e impl.End) {
	t.Helper()
	if isRight, code := impl.KitRight(f.kind, f.threads, e); isRight || code != impl.OK {
		t.Errorf("%+v: %t %s", f, isRight, impl.CodeWord(code))
	}
}
