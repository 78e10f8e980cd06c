package tests

import (
	"fmt"
	"math"
	"slices"
	"strings"
	"testing"

	"loop.example/g00045/impl"
)

func TestExploreConstants(t *testing.T) {
	if impl.MaxStates != 3000 || impl.MaxCount != 999999999999999999 {
		t.Errorf("MaxStates %d, MaxCount %d", impl.MaxStates, impl.MaxCount)
	}
	if impl.FdBad != 1 || impl.FdStuck != 2 || impl.FdHung != 3 {
		t.Errorf("%d, %d, %d", impl.FdBad, impl.FdStuck, impl.FdHung)
	}
}

// fenceRow: a thread of so many fences.
func fenceRow(count int) string { return "; thread" + strings.Repeat("; fence", count) }

// countTo: a thread that does so many fences, and has counted them in r1.
func countTo(count int) string {
	return fmt.Sprintf("; thread; fence; sum r1 1; jump r1 < %d 0", count)
}

func TestExploreBadMost(t *testing.T) {
	for _, most := range slices.Concat([]int{0, -1, -3000, 3001, 3002, 4096, 4097, 1 << 32, 1<<32 + 1, 1<<32 + 3000, math.MinInt, math.MinInt + 1, math.MaxInt, math.MaxInt - 1}, anyNumbers) {
		if 1 <= most && most <= 3000 {
			continue
		}
		for _, prog := range []string{"cells 0; thread", "cells 0; thread; fence; thread; fence", loopingLoad, "cells 0" + countTo(5000)} {
			checkMapCode(t, prog, cellsOf(t, prog), most, impl.ErrBad)
		}
		for _, p := range wrongProgs() {
			checkMapCode(t, "a wrong program", p, most, impl.ErrBad)
		}
	}
}

func TestExploreWrongPrograms(t *testing.T) {
	for _, p := range wrongProgs() {
		for _, most := range []int{1, 2, 100, 2999, 3000} {
			checkMapCode(t, "a wrong program", p, most, impl.ErrBad)
		}
	}
	s := newSource()
	wrong := 0
	for range 1500 {
		p := fewCells(s)
		for range 1 + s.IntN(3) {
			p = turnCells(s, p)
		}
		if !isOneProg(p) {
			wrong++
			checkMapCode(t, showCells(p), p, pick(s, []int{1, 50, 3000}), impl.ErrBad)
		}
	}
	if wrong < 500 {
		t.Errorf("%d wrong ones", wrong)
	}
}

// The state that is one too many counts: as many states as most are not too many.
func TestExploreHowManyStates(t *testing.T) {
	for _, c := range []struct {
		prog   string
		states int
	}{
		{"cells 0; thread", 1},
		{"cells 0; thread; assert 0 == 1; thread; jump 0 == 0 0; thread; await r1 c0 == 1 seq", 1},
		{"cells 0; thread; fence", 2},
		{"cells 0" + fenceRow(1) + fenceRow(1), 4},
		{"cells 0" + fenceRow(6) + fenceRow(6), 49},
		{"cells 0; thread; fence; jump 0 == 0 0", 1},
		{"cells 0; thread; load r1 c0 relaxed; jump 0 == 0 0" + fenceRow(3), 4},
		{"cells 5; thread; store c0 5 relaxed; thread; load r1 c0 relaxed", 5},
		{"cells 0" + countTo(100), 101},
		{"cells 0" + countTo(2999), 3000},
		{"cells 0" + fenceRow(9) + fenceRow(14) + fenceRow(19), 3000},
	} {
		p := cellsOf(t, c.prog)
		for _, most := range []int{c.states, c.states + 1, c.states + 2, 2999, 3000} {
			if most < c.states || most > 3000 {
				continue
			}
			if r, code := impl.Explore(p, most); code != impl.OK || r.States != c.states {
				t.Errorf("%s, most %d: %s: %s", c.prog, most, impl.CodeWord(code), showReport(r))
			}
			if _, code := impl.Find(p, most, impl.FdBad); code != impl.OK && code != impl.ErrNone {
				t.Errorf("%s, most %d: Find: %s", c.prog, most, impl.CodeWord(code))
			}
		}
		for _, most := range []int{1, 2, c.states / 2, c.states - 2, c.states - 1} {
			if 1 <= most && most < c.states {
				checkMapCode(t, c.prog, p, most, impl.ErrFuel)
			}
		}
	}
	// Without an end, and just too many.
	for _, prog := range []string{"cells 0" + countTo(3000), "cells 0; thread; sum r1 1; fence; jump 0 == 0 0", "cells 0; thread; add r1 c0 1 seq; jump 0 == 0 0; thread; add r1 c0 1 seq; jump 0 == 0 0; thread; add r1 c0 1 seq; jump 0 == 0 0", "cells 0" + fenceRow(40) + fenceRow(40) + fenceRow(40) + fenceRow(40)} {
		for _, most := range []int{1, 10, 2999, 3000} {
			checkMapCode(t, prog, cellsOf(t, prog), most, impl.ErrFuel)
		}
	}
}

// A program at whose beginning no turn can come next has that state alone.
func TestExploreTheBeginningAlone(t *testing.T) {
	one := "states 1; moves 0; runs 1; "
	checkMap(t, "cells 0; thread", one+"bad 0; stuck 0; hung 0; ends fine, stuck , regs , cells 0; findbad none; findstuck none; findhung none")
	checkMap(t, "cells 3 -4; thread; thread; set r2 7; thread", one+"bad 0; stuck 0; hung 0; ends fine, stuck , regs /0 7/, cells 3 -4; findstuck none")
	checkMap(t, "cells 0; thread; assert 0 == 1", one+"bad 1; stuck 0; hung 0; ends bad, stuck , regs , cells 0; findbad ; findstuck none; findhung none")
	checkMap(t, "cells 0; thread; await r1 c0 == 1 relaxed", one+"bad 0; stuck 1; hung 0; ends fine, stuck 0, regs , cells 0; findbad none; findstuck ; findhung none")
	checkMap(t, "cells 0; thread; jump 0 == 0 0", one+"bad 0; stuck 0; hung 1; ends fine, stuck , regs , cells 0; findbad none; findstuck none; findhung ")
	checkMap(t, "cells 0; thread; thread; await r1 c0 == 1 relaxed; thread; jump 0 == 0 0; thread; assert 0 == 1", one+"bad 1; stuck 1; hung 1; ends bad, stuck 1, regs ///, cells 0; findbad ; findstuck ; findhung ")
}

func TestExploreCounts(t *testing.T) {
	// Turns of threads that have nothing to do with one another.
	checkMap(t, "cells 0"+fenceRow(1)+fenceRow(1), "states 4; moves 4; runs 2; ends fine, stuck , regs /, cells 0")
	checkMap(t, "cells 0"+fenceRow(2)+fenceRow(2)+fenceRow(2), "states 27; moves 54; runs 90")
	checkMap(t, "cells 0"+fenceRow(1)+fenceRow(1)+fenceRow(1)+fenceRow(1), "states 16; moves 32; runs 24")
	checkMap(t, "cells 0"+fenceRow(9)+fenceRow(14)+fenceRow(19), "states 3000; moves 8350; bad 0; stuck 0; hung 0")
	// A load with one message or two: what was read ahead of the store is what is read of the old one behind it.
	checkMap(t, "cells 5; thread; store c0 5 relaxed; thread; load r1 c0 relaxed", "states 5; moves 5; runs 3; ends fine, stuck , regs /5, cells 5")
	checkMap(t, "cells 5; thread; store c0 6 relaxed; thread; load r1 c0 relaxed", "states 5; moves 5; runs 3; ends fine, stuck , regs /5, cells 6 | fine, stuck , regs /6, cells 6")
	checkMap(t, "cells 5; thread; store c0 5 seq; thread; load r1 c0 seq", "states 5; moves 4; runs 2; ends fine, stuck , regs /5, cells 5")
	// A turn that leads nowhere else counts as one, too.
	checkMap(t, "cells 0; thread; fence; jump 0 == 0 0", "states 1; moves 1; stuck 0; ends ; runs loop")
	checkMap(t, "cells 0; thread; load r1 c0 relaxed; jump 0 == 0 0; thread; fence", "states 2; moves 3; ends ; runs loop")
	// The single add reads 0, 1 or 2.
	checkMap(t, "cells 0; thread; add r1 c0 1 relaxed; add r1 c0 1 relaxed; thread; add r1 c0 1 relaxed", "states 9; moves 8; runs 3; ends fine, stuck , regs 1/2, cells 3 | fine, stuck , regs 2/, cells 3 | fine, stuck , regs 2/1, cells 3")
}

func TestExploreStuck(t *testing.T) {
	// A thread that waits is not stuck as long as another one has a turn.
	checkMap(t, "cells 0; thread; await r1 c0 == 1 relaxed; thread; fence; fence", "states 3; moves 2; stuck 1; runs 1; ends fine, stuck 0, regs /, cells 0; findstuck 1:0 1:0")
	checkMap(t, "cells 0; thread; await r1 c0 == 1 relaxed; thread; store c0 1 relaxed; store c0 2 relaxed", "states 5; moves 5; stuck 0; runs 2; ends fine, stuck , regs 1/, cells 2; findstuck none")
	// With seq the message is gone by.
	checkMap(t, "cells 0; thread; await r1 c0 == 1 seq; thread; store c0 1 seq; store c0 2 seq", "states 5; moves 4; stuck 1; runs 2; ends fine, stuck , regs 1/, cells 2 | fine, stuck 0, regs /, cells 2; findstuck 1:0 1:0")
	// At a full cell: store, swap, add and cas, one that would not write too; a load can be.
	checkMap(t, "cells 0; thread; store c0 1 relaxed; jump 0 == 0 0", "states 50; moves 49; stuck 1; runs 1; ends fine, stuck 0, regs , cells 1; findstuck "+toldTurns(repeated(49, impl.Turn{})))
	for _, write := range []string{"store c0 5 relaxed", "swap r2 c0 5 seq", "add r2 c0 5 both", "cas r2 c0 1 6 acquire", "cas r2 c0 7 6 relaxed"} {
		checkMap(t, "cells 0; thread; store c0 1 relaxed; sum r1 1; jump r1 < 49 0; "+write, "states 50; moves 49; stuck 1; runs 1; ends fine, stuck 0, regs 49, cells 1")
		checkMap(t, "cells 0; thread; store c0 1 relaxed; sum r1 1; jump r1 < 48 0; "+write, "states 50; moves 49; stuck 0; findstuck none")
	}
	checkMap(t, "cells 0; thread; store c0 1 relaxed; sum r1 1; jump r1 < 49 0; load r2 c0 relaxed", "states 51; moves 50; stuck 0; ends fine, stuck , regs 49 1, cells 1")
	// Several that wait, among them one that is hung and one at its end.
	checkMap(t, "cells 0; thread; await r1 c0 == 1 acquire; thread; jump 0 == 0 0; thread; await r1 c0 == 2 seq; thread; fence", "states 2; moves 1; stuck 1; hung 2; ends fine, stuck 0 2, regs ///, cells 0; findstuck 3:0; findhung ")
	// Two that put up a sign each and wait for the other's to be down: the old message can be read by both, by one of them, perhaps by none.
	checkMap(t, "cells 0 0; thread; swap r1 c0 1 both; await r1 c1 == 0 acquire; thread; swap r1 c1 1 both; await r1 c0 == 0 acquire", "runs 6; stuck 0; states 9; moves 12")
	checkMap(t, "cells 0 0; thread; swap r1 c0 1 both; await r1 c1 == 0 seq; thread; swap r1 c1 1 both; await r1 c0 == 0 seq", "runs 6; stuck 2; findstuck 0:0 0:0 1:0")
	checkMap(t, "cells 0 0; thread; swap r1 c0 1 seq; await r1 c1 == 0 seq; thread; swap r1 c1 1 seq; await r1 c0 == 0 seq", "runs 4; stuck 4; states 9; moves 8; findstuck 0:0 1:0")
}

func TestExploreHung(t *testing.T) {
	checkMap(t, "cells 0; thread; fence; jump 0 == 0 1; thread; fence", "states 4; moves 4; hung 2; stuck 0; runs 2; ends fine, stuck , regs /, cells 0; findhung 0:0")
	checkMap(t, "cells 0; thread; fence; jump 0 == 0 1; thread; fence; jump 0 == 0 1", "states 4; moves 4; hung 3; stuck 0; findhung 0:0")
	checkMap(t, "cells 0; thread; load r1 c0 relaxed; jump r1 == 1 1; thread; store c0 1 relaxed", "states 5; moves 5; hung 1; runs 3; ends fine, stuck , regs /, cells 1 | fine, stuck , regs 1/, cells 1; findhung 1:0 0:0")
	// Behind just MaxQuiet of them a thread is not hung.
	checkMap(t, "cells 0; thread; fence; "+quietRow(1, 100), "states 2; hung 0; ends fine, stuck , regs 0 0 0 0 0 50, cells 0; findhung none")
	checkMap(t, "cells 0; thread; fence; "+quietRow(1, 102), "states 2; hung 1; ends fine, stuck , regs 0 0 0 0 0 50, cells 0; findhung 0:0")
}

func TestExploreBad(t *testing.T) {
	checkMap(t, "cells 0; thread; assert 0 == 1; fence", "states 2; moves 1; bad 2; ends bad, stuck , regs , cells 0; findbad ")
	checkMap(t, "cells 0; thread; fence; assert 0 == 1; fence; thread; fence", "states 6; moves 7; bad 4; runs 3; ends bad, stuck , regs /, cells 0; findbad 0:0")
	checkMap(t, "cells 0; thread; store c0 1 relaxed; thread; load r1 c0 relaxed; assert r1 == 1; fence", "states 8; bad 4; findbad 1:0; ends fine, stuck , regs /1, cells 1 | bad, stuck , regs /, cells 1")
}

// Ends by Bad, then by Stuck, then by Regs thread by thread, then by Cells; numbers as numbers, each end once.
func TestExploreEnds(t *testing.T) {
	checkMap(t, "cells 0; thread; store c0 1 relaxed; thread; load r1 c0 relaxed; assert r1 == 1", "ends fine, stuck , regs /1, cells 1 | bad, stuck , regs /, cells 1")
	checkMap(t, "cells 0 0; thread; store c0 1 relaxed; thread; load r1 c0 relaxed; assert r1 == 0; store c1 r1 relaxed; thread; await r1 c1 == 1 relaxed", "ends fine, stuck 2, regs //, cells 1 0 | bad, stuck , regs /1/1, cells 1 1")
	checkMap(t, "cells 0 0 0; thread; await r1 c0 == 1 relaxed; thread; await r1 c1 == 1 relaxed; thread; load r1 c2 relaxed; jump r1 == 0 6; jump r1 == 1 5; store c1 1 relaxed; jump r1 == 2 6; store c0 1 relaxed; thread; store c2 1 relaxed; store c2 2 relaxed; store c2 3 relaxed",
		"ends fine, stuck , regs 1/1/3/, cells 1 1 3 | fine, stuck 0, regs /1/2/, cells 0 1 3 | fine, stuck 0 1, regs ///, cells 0 0 3 | fine, stuck 1, regs 1//1/, cells 1 0 3")
	checkMap(t, "cells -1; thread; store c0 10 relaxed; store c0 9 relaxed; store c0 -20 relaxed; thread; load r1 c0 relaxed", "ends fine, stuck , regs /-20, cells -20 | fine, stuck , regs /-1, cells -20 | fine, stuck , regs /9, cells -20 | fine, stuck , regs /10, cells -20")
	checkMap(t, "cells 0; thread; store c0 1 relaxed; thread; load r1 c0 relaxed; thread; load r1 c0 relaxed", "ends fine, stuck , regs //, cells 1 | fine, stuck , regs //1, cells 1 | fine, stuck , regs /1/, cells 1 | fine, stuck , regs /1/1, cells 1")
	checkMap(t, "cells 0 0; thread; store c0 1 relaxed; store c1 1 relaxed; thread; load r6 c0 relaxed; load r1 c1 relaxed", "ends fine, stuck , regs /, cells 1 1 | fine, stuck , regs /0 0 0 0 0 1, cells 1 1 | fine, stuck , regs /1, cells 1 1 | fine, stuck , regs /1 0 0 0 0 1, cells 1 1")
	checkMap(t, "cells 0; thread; swap r1 c0 1 relaxed; thread; swap r1 c0 2 relaxed", "ends fine, stuck , regs /1, cells 2 | fine, stuck , regs 2/, cells 1")
	checkMap(t, "cells 0; thread; store c0 5 relaxed; thread; store c0 -5 relaxed; thread; store c0 40 relaxed", "ends fine, stuck , regs //, cells -5 | fine, stuck , regs //, cells 5 | fine, stuck , regs //, cells 40")
	checkMap(t, "cells 0 0; thread; store c0 1 relaxed; store c1 2 relaxed; thread; store c0 3 relaxed; store c1 1 relaxed", "ends fine, stuck , regs /, cells 1 1 | fine, stuck , regs /, cells 1 2 | fine, stuck , regs /, cells 3 1 | fine, stuck , regs /, cells 3 2")
	// Greatest numbers: nothing is taken from one another.
	checkMap(t, "cells 999999999999999999; thread; set r1 999999999999999999; sum r1 r1; sum r1 r1; sum r1 r1; store c0 r1 relaxed; set r1 0; thread; set r1 -999999999999999999; sum r1 r1; sum r1 r1; sum r1 r1; store c0 r1 relaxed; set r1 0", "ends fine, stuck , regs /, cells -7999999999999999992 | fine, stuck , regs /, cells 7999999999999999992")
}
