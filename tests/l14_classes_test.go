package tests

import (
	"fmt"
	"slices"
	"strings"
	"testing"

	"loop.example/g00045/impl"
)

// checkClasses: the runs are as told, with bars between them. No bar and no turn is one run of no turns.
func checkClasses(t *testing.T, prog, want string) {
	t.Helper()
	p := cellsOf(t, prog)
	var told [][]impl.Turn
	for _, run := range strings.Split(want, "|") {
		told = append(told, turnsOf(t, run))
	}
	runs, code := impl.Classes(p)
	if code != impl.OK || len(runs) != len(told) || toldRuns(runs) != toldRuns(told) {
		t.Errorf("%s\n%d runs, %s: %s, not %s", prog, len(runs), impl.CodeWord(code), toldRuns(runs), toldRuns(told))
	}
	if runs, code := wantClasses(p); code != impl.OK || len(runs) != len(told) || toldRuns(runs) != toldRuns(told) {
		t.Fatalf("%s\nthe second telling has %s: %s", prog, impl.CodeWord(code), toldRuns(runs))
	}
}

func checkClassesCode(t *testing.T, what string, p impl.Prog, want int) {
	t.Helper()
	if runs, code := impl.Classes(p); code != want || len(runs) > 0 {
		t.Errorf("%s: %d runs, %s, not %s", what, len(runs), impl.CodeWord(code), impl.CodeWord(want))
	}
}

func TestClassesCodes(t *testing.T) {
	for _, p := range wrongProgs() {
		checkClassesCode(t, "a wrong program", p, impl.ErrBad)
	}
	// Too many states, with one run or with many, and where a loop comes behind them or too many runs do.
	for _, prog := range []string{"cells 0" + countTo(3000), "cells 0" + countTo(5000) + "; fence", "cells 0" + countTo(3000) + "; fence; jump 0 == 0 3", "cells 0" + fenceRow(40) + fenceRow(40) + fenceRow(40)} {
		checkClassesCode(t, prog, cellsOf(t, prog), impl.ErrFuel)
	}
	// A loop, even with too many runs.
	for _, prog := range []string{"cells 0; thread; fence; jump 0 == 0 0", loopingLoad, "cells 0; thread; cas r1 c0 1 2 both; jump 0 == 0 0; thread; await r1 c0 == 1 relaxed", "cells 0" + fenceRow(38) + fenceRow(38) + "; thread; fence; jump 0 == 0 0", "cells 0" + fenceRow(9) + fenceRow(9) + "; thread; load r1 c0 relaxed; jump r1 == 0 0"} {
		checkClassesCode(t, prog, cellsOf(t, prog), impl.ErrLoop)
	}
	// More than MaxCount, however many kinds.
	for _, prog := range []string{"cells 0" + fenceRow(38) + fenceRow(38), "cells 0" + loadRow(38) + loadRow(38), choiceRows(10, 0, 10)} {
		checkClassesCode(t, prog, cellsOf(t, prog), impl.ErrRange)
	}
	// No more than MaxCount, and more than MaxRuns.
	for _, prog := range []string{choiceRows(19, 9, 9), "cells 0" + fenceRow(30) + fenceRow(30), "cells 0" + loadRow(30) + loadRow(31)} {
		checkClassesCode(t, prog, cellsOf(t, prog), impl.ErrFuel)
	}
	// Just as many states as may be.
	runs, code := impl.Classes(cellsOf(t, "cells 0"+countTo(2999)))
	if code != impl.OK || len(runs) != 1 || !slices.Equal(runs[0], make([]impl.Turn, 2999)) {
		t.Errorf("%d runs, %s", len(runs), impl.CodeWord(code))
	}
}

// loadRow: a thread of so many loads, which leave nothing.
func loadRow(count int) string {
	return "; thread" + strings.Repeat("; load r1 c0 relaxed", count)
}

// choicesOf: thread 0 writes the cells c0, c1 .. so that each has that many messages, tells each of them by a release of c7, and at last by c6 that it is done; only then thread 1 reads each of them once, comes to know the last message, and so has but few states. All rows of choices are runs, none of which is alike to another.
func choicesOf(messages ...int) string {
	out := []string{"cells 0 0 0 0 0 0 0 0", "thread"}
	for cell, count := range messages {
		out = append(out, "set r1 1", fmt.Sprintf("store c%d r1 relaxed", cell), "sum r1 1", fmt.Sprintf("jump r1 < %d %d", count, 5*cell+1), fmt.Sprintf("store c7 %d release", cell+1))
	}
	out = append(out, "store c6 1 relaxed", "thread", "await r1 c6 == 1 relaxed")
	for cell := range messages {
		out = append(out, fmt.Sprintf("load r1 c%d relaxed", cell), fmt.Sprintf("await r1 c7 == %d acquire", cell+1))
	}
	return strings.Join(out, "; ")
}

// withLoads: behind it two more threads, which begin when all that was done, have an await and so many loads each: these come in any order, which are all alike.
func withLoads(prog string, one, other int) string {
	lead := "; thread; await r1 c6 == 2 relaxed"
	return prog + "; store c6 2 relaxed" + lead + strings.Repeat("; load r1 c6 seq", one) + lead + strings.Repeat("; load r1 c6 relaxed", other)
}

// Runs are counted, not their kinds: MaxRuns of them are not too many, one more is.
func TestClassesHowManyRuns(t *testing.T) {
	for _, c := range []struct {
		prog          string
		runs, classes int
	}{
		{choicesOf(2, 2, 4, 5, 5, 5), 2000, 2000},
		{choicesOf(50, 40), 2000, 2000},
		{choicesOf(49, 40), 1960, 1960},
		{choicesOf(3, 23, 29), 2001, 0},
		{choicesOf(6, 7, 48), 2016, 0},
		{withLoads(choicesOf(10, 10, 10), 0, 0), 2000, 1000},
		{withLoads(choicesOf(10, 10, 5), 0, 2), 2000, 500},
		{withLoads(choicesOf(5, 4), 3, 1), 300, 20},
		{withLoads(choicesOf(2, 2, 5, 5), 2, 2), 2000, 100},
		{withLoads(choicesOf(2, 5, 5, 2), 2, 2), 2000, 100},
		{withLoads(choicesOf(7, 11, 13), 0, 0), 2002, 0},
		{withLoads(choicesOf(23, 29), 0, 1), 2001, 0},
		{withLoads(choicesOf(23, 29), 1, 0), 2001, 0},
		{"cells 0" + loadRow(5) + loadRow(9), 2002, 0},
		{"cells 0" + loadRow(9) + loadRow(5), 2002, 0},
		{"cells 0" + loadRow(6) + loadRow(7), 1716, 1},
		{"cells 0" + loadRow(3) + loadRow(21), 2024, 0},
		{"cells 0" + loadRow(3) + loadRow(20), 1771, 1},
		{"cells 0" + loadRow(2) + loadRow(3) + loadRow(2) + loadRow(1), 1680, 1},
		{"cells 0" + loadRow(2) + loadRow(2) + loadRow(2) + loadRow(2), 2520, 0},
		{"cells 0" + fenceRow(6) + fenceRow(7), 1716, 1716},
		{"cells 0" + fenceRow(5) + fenceRow(9), 2002, 0},
	} {
		p := cellsOf(t, c.prog)
		if count, code := impl.Runs(p, impl.MaxStates); count != c.runs || code != impl.OK {
			t.Fatalf("%s: %d runs, %s", c.prog, count, impl.CodeWord(code))
		}
		if c.runs > 2000 {
			checkClassesCode(t, c.prog, p, impl.ErrFuel)
			continue
		}
		runs, code := impl.Classes(p)
		if want, _ := wantClasses(p); code != impl.OK || len(want) != c.classes || !slices.EqualFunc(runs, want, slices.Equal[[]impl.Turn]) {
			t.Errorf("%s: %d classes, %s, not %d; the second telling has %d", c.prog, len(runs), impl.CodeWord(code), c.classes, len(want))
		}
	}
}

// At a beginning without a turn that can come next there is one run, of no turns.
func TestClassesWithoutTurns(t *testing.T) {
	for _, prog := range []string{"cells 0; thread", "cells 0; thread; thread; set r1 1", "cells 0; thread; await r1 c0 == 1 relaxed", "cells 0; thread; jump 0 == 0 0", "cells 0; thread; assert 0 == 1", "cells 0; thread; jump 0 == 0 0; thread; await r1 c0 != 0 seq; thread; assert 1 < 0; thread"} {
		checkClasses(t, prog, "")
	}
}

func TestClassesByHand(t *testing.T) {
	checkClasses(t, "cells 0; thread; fence; fence; fence", "0 0 0")
	// What is apart comes by Thread, the first one as far as it can.
	checkClasses(t, fourLoads, "0 1 2 3")
	checkClasses(t, "cells 0"+loadRow(3)+loadRow(2)+loadRow(2), "0 0 0 1 1 2 2")
	checkClasses(t, "cells 0; thread; fence; thread; store c0 1 relaxed; thread; fence", "0 1 2 | 1 2 0")
	checkClasses(t, "cells 0; thread; fence; thread; fence; thread; fence", "0 1 2 | 0 2 1 | 1 0 2 | 1 2 0 | 2 0 1 | 2 1 0")
	checkClasses(t, "cells 0; thread; add r1 c0 1 relaxed; thread; add r1 c0 1 relaxed", "0 1 | 1 0")
	checkClasses(t, storeRows, "0 0 1 1 | 0 1 0 1 | 0 1 0:1 1 | 0 1 1 0 | 0 1 1 0:1 | 0 1 1 0:2")
	// Of a kind in which a later thread must come first.
	checkClasses(t, "cells 0 0; thread; store c0 1 relaxed; thread; load r1 c0 relaxed; thread; load r1 c1 relaxed", "0 1 2 | 0 1:1 2 | 1 0 2")
	checkClasses(t, "cells 0 0; thread; store c0 1 relaxed; thread; load r1 c1 relaxed; thread; load r1 c0 relaxed", "0 1 2 | 0 1 2:1 | 1 2 0")
	checkClasses(t, "cells 0 0; thread; load r1 c0 relaxed; thread; load r1 c1 relaxed; thread; await r1 c1 == 0 relaxed; store c0 1 relaxed", "0 1 2 2 | 1 2 2 0 | 1 2 2 0:1")
	// Thread 0 comes behind thread 2 for what is apart from all of thread 1's, and behind thread 1 for the rest.
	checkClasses(t, "cells 0 0; thread; store c0 1 relaxed; thread; store c1 1 relaxed; thread; store c0 2 relaxed; store c1 2 relaxed", "0 1 2 2 | 0 2 2 1 | 1 2 0 2 | 2 0 2 1")
	// Of choices, which are all apart in their order, too.
	checkClasses(t, "cells 0; thread; store c0 1 relaxed; thread; await r1 c0 <= 1 relaxed; thread; load r1 c0 relaxed", "0 1 2 | 0 1 2:1 | 0 1:1 2 | 0 1:1 2:1 | 1 0 2 | 1 0 2:1 | 1 2 0 | 2 0 1 | 2 0 1:1")
}

// Ends that are stuck, bad or hung are ends.
func TestClassesOfEnds(t *testing.T) {
	checkClasses(t, "cells 0; thread; load r1 c0 relaxed; await r1 c0 == 1 relaxed; thread; load r1 c0 relaxed; jump 0 == 0 1; thread; load r1 c0 relaxed; assert 0 == 1", "0 1 2")
	checkClasses(t, "cells 0; thread; store c0 1 relaxed; thread; load r1 c0 relaxed; jump r1 == 0 4; await r2 c0 == 0 relaxed; fence; set r2 0", "0 1 | 0 1:1 | 1 0")
	checkClasses(t, "cells 0; thread; store c0 1 relaxed; thread; load r1 c0 relaxed; jump r1 == 1 1; fence", "0 1 | 0 1:1 1 | 1 0 1")
	checkClasses(t, "cells 0; thread; store c0 1 relaxed; thread; load r1 c0 relaxed; assert r1 == 1; store c0 2 relaxed", "0 1 1 | 0 1:1 1 | 1 0 1 | 1 1 0")
	// An await that cannot be, for good, or until another thread comes.
	checkClasses(t, "cells 0; thread; await r1 c0 == 1 relaxed; thread; load r1 c0 relaxed", "1")
	checkClasses(t, "cells 0; thread; await r1 c0 == 1 relaxed; thread; store c0 1 relaxed; thread; load r1 c0 relaxed", "1 0 2 | 1 0 2:1 | 2 1 0")
	// A cell that becomes full: the add can come only ahead of that, or else the last store cannot.
	full := "cells 0 0; thread; set r1 48; store c0 r1 relaxed; sum r1 -1; jump r1 != 0 1; fence; store c0 1 relaxed; thread; await r1 c0 == 48 relaxed; add r1 c0 1 relaxed"
	p := cellsOf(t, full)
	runs, code := impl.Classes(p)
	want, _ := wantClasses(p)
	if code != impl.OK || toldRuns(runs) != toldRuns(want) || len(runs) < 1000 {
		t.Errorf("%d runs, %s", len(runs), impl.CodeWord(code))
	}
}

// Programs of any make: each answer is the second telling's.
func TestClassesOfAnyMake(t *testing.T) {
	s := newSource()
	counts := map[string]int{}
	for i := range 1200 {
		p := fewCells(s)
		switch i % 20 {
		case 0, 1, 2:
			p = loopingCells(s)
		case 3:
			p = anyCells(s, true, false)
		case 4, 5:
			p = turnCells(s, p)
		}
		runs, code := impl.Classes(p)
		want, wantCode := wantClasses(p)
		if code != wantCode || len(runs) != len(want) || toldRuns(runs) != toldRuns(want) {
			t.Fatalf("%s%s: %s\nnot %s: %s", showCells(p), impl.CodeWord(code), toldRuns(runs), impl.CodeWord(wantCode), toldRuns(want))
		}
		counts[impl.CodeWord(code)]++
		if count, _ := impl.Runs(p, impl.MaxStates); code == impl.OK && len(runs) > 3 && count > len(runs) {
			counts["folded"]++
		}
	}
	if min(counts["fuel"], counts["bad"], counts["loop"]) < 20 || counts["folded"] < 100 {
		t.Errorf("%v", counts)
	}
}

// Runs may have more turns than can be played: MaxRuns of them, each of nearly 2900.
func TestClassesOfLongRuns(t *testing.T) {
	prog := choicesOf(2, 2, 4, 5, 5, 5) + "; set r1 0; fence; sum r1 1; jump r1 < 2850 14"
	runs, code := impl.Classes(cellsOf(t, prog))
	if code != impl.OK || len(runs) != 2000 || !slices.IsSortedFunc(runs, runOrder) {
		t.Fatalf("%d runs, %s", len(runs), impl.CodeWord(code))
	}
	for i, run := range runs {
		if len(run) != len(runs[0]) || run[len(run)-1] != (impl.Turn{Thread: 1}) || i > 0 && runOrder(runs[i-1], run) == 0 {
			t.Fatalf("run %d has %d turns", i, len(run))
		}
	}
}
