package tests

import (
	"fmt"
	"strings"
	"testing"

	"loop.example/g00045/impl"
)

// quietRow: instructions, the first one of which has that number, that are so many quiet ones when they are done: a loop of two, and one more if the number is odd. They leave r6 at half of it, and r5 at 1 if it is odd.
func quietRow(first, count int) string {
	text := fmt.Sprintf("sum r6 1; jump r6 < %d %d; ", count/2, first)
	if count%2 == 1 {
		text += "set r5 1; "
	}
	return text
}

func TestQuietAtTheBeginning(t *testing.T) {
	checkCells(t, "cells 0; thread; set r1 4; sum r1 -6; set r2 r1; fence; set r3 9; thread; thread; set r1 1", "", "at 3 0 1; regs -2 -2//1; ready 0:0; hung ; bad false")
	checkCells(t, "cells 0; thread; thread", "", "at 0 0; regs /; cells 0; seen 0/0; hung ; bad false; calls ; ready ")
	checkCells(t, "cells 0; thread; load r1 c0 seq; set r1 9", "", "at 0; regs ; ready 0:0")
	// Jumps, taken and not, over each condition.
	for _, c := range []struct {
		cond string
		want [3]bool
	}{{"==", [3]bool{false, true, false}}, {"!=", [3]bool{true, false, true}}, {"<", [3]bool{true, false, false}}, {"<=", [3]bool{true, true, false}}} {
		for i, left := range []int{4, 5, 6} {
			told := "regs 5 1; at 4"
			if c.want[i] {
				told = "regs 5; at 4"
			}
			checkCells(t, fmt.Sprintf("cells 0; thread; set r1 5; jump %d %s r1 3; set r2 1; fence; set r3 1", left, c.cond), "", strings.Replace(told, "at 4", "at 3", 1))
			checkCells(t, fmt.Sprintf("cells 0; thread; set r1 5; jump %d %s r1 4; set r2 1; set r2 r2", left, c.cond), "", told)
			isBad := fmt.Sprint(!c.want[i])
			checkCells(t, fmt.Sprintf("cells 0; thread; set r1 5; assert %d %s r1", left, c.cond), "", "bad "+isBad)
		}
	}
	// A jump to its thread's end.
	checkCells(t, "cells 0; thread; jump 0 == 0 3; fence; fence", "", "at 3; ready ; hung ")
	// Back over what was done.
	checkCells(t, "cells 0; thread; sum r1 1; jump r1 < 5 0; sum r1 10; fence", "", "at 3; regs 15")
}

func TestQuietBehindATurn(t *testing.T) {
	prog := "cells 3; thread; load r1 c0 seq; set r2 r1; sum r2 1; store c0 r2 seq; set r3 1; thread; set r1 1; load r2 c0 seq; jump r2 == 3 1; set r3 7"
	checkCells(t, prog, "", "at 0 1; regs /1; ready 0:0 1:0")
	checkCells(t, prog, "0", "at 3 1; regs 3 4/1; ready 0:0 1:0")
	checkCells(t, prog, "0 0", "at 5 1; regs 3 4 1/1; ready 1:0; cells 3 4")
	checkCells(t, prog, "1", "at 0 1; regs /1 3; ready 0:0 1:0")
	checkCells(t, prog, "1 0 1 0 1", "at 5 4; regs 3 4 1/1 4 7; ready ")
	// A turn is of one thread: the others stand where they stood.
	checkCells(t, "cells 0; thread; fence; set r1 1; thread; fence; set r1 1; thread; fence; set r1 1", "1", "at 0 2 0; regs /1/; ready 0:0 2:0")
}

// Of MaxQuiet quiet instructions behind one another a thread is not hung, of one more it is, behind MaxQuiet of them.
func TestQuietTooMany(t *testing.T) {
	for _, end := range []string{"fence", ""} {
		for _, count := range []int{2, 3, 98, 99, 100} {
			rows := 2 + count%2
			ready := "0:0"
			if end == "" {
				ready = ""
			}
			regs := fmt.Sprintf("0 0 0 0 %d %d", count%2, count/2)
			checkCells(t, "cells 0; thread; "+quietRow(0, count)+end, "", fmt.Sprintf("hung ; at %d; regs %s; ready %s", rows, regs, ready))
			// Behind a turn they are counted anew.
			checkCells(t, "cells 0; thread; set r4 1; set r4 1; fence; "+quietRow(3, count)+end, "0", fmt.Sprintf("hung ; at %d; regs %s; ready %s", rows+3, strings.Replace(regs, "0 0 0 0", "0 0 0 1", 1), ready))
		}
		checkCells(t, "cells 0; thread; "+quietRow(0, 101)+end, "", "hung 0; at 2; regs 0 0 0 0 0 50; ready ")
		checkCells(t, "cells 0; thread; "+quietRow(0, 102)+end, "", "hung 0; at 0; regs 0 0 0 0 0 50; ready ")
		checkCells(t, "cells 0; thread; "+quietRow(0, 103)+end, "", "hung 0; at 0; regs 0 0 0 0 0 50; ready ")
		checkCells(t, "cells 0; thread; fence; "+quietRow(1, 101)+end, "0", "hung 0; at 3; regs 0 0 0 0 0 50; ready ")
		checkCells(t, "cells 0; thread; fence; "+quietRow(1, 102)+end, "0", "hung 0; at 1; regs 0 0 0 0 0 50; ready ")
	}
	checkNoTurn(t, "cells 0; thread; "+quietRow(0, 101)+"fence", "0")
	checkNoTurn(t, "cells 0; thread; fence; "+quietRow(1, 102)+"fence", "0 0")
	// Without an end.
	checkCells(t, "cells 0; thread; jump 0 == 0 0", "", "hung 0; at 0; ready ")
	checkCells(t, "cells 0; thread; sum r1 1; sum r2 r1; jump 0 == 0 0", "", "hung 0; at 1; regs 34 561; ready ")
	checkCells(t, "cells 0; thread; fence; jump 0 == 0 0", "0*200", "hung ; at 0; ready 0:0")
	checkCells(t, "cells 0; thread; fence; jump 0 == 0 1", "0", "hung 0; at 1; ready ")
	// Forty of them cannot be too many without a jump.
	checkCells(t, "cells 0; thread; "+strings.Repeat("sum r1 1; ", 40), "", "hung ; at 40; regs 40")
}

// A thread that is hung has no turn any more, the others go on.
func TestHungThreads(t *testing.T) {
	prog := "cells 0; thread; store c0 1 seq; store c0 2 seq; thread; load r1 c0 acquire; jump r1 == 1 1; set r2 1; load r1 c0 acquire; thread; jump 0 == 0 0; fence; thread; load r1 c0 acquire"
	checkCells(t, prog, "", "hung 2; at 0 0 0 0; ready 0:0 1:0 3:0")
	checkCells(t, prog, "0", "hung 2; ready 0:0 1:0 1:1 3:0 3:1")
	checkCells(t, prog, "0 1", "hung 1 2; at 1 1 0 0; regs /1//; ready 0:0 3:0 3:1")
	checkCells(t, prog, "0 1 0 3", "hung 1 2; at 2 1 0 1; regs /1//2; ready ")
	checkCells(t, prog, "0 1:1 0 1 3", "hung 2; at 2 4 0 1; regs /2 1//2; ready ")
	checkNoTurn(t, prog, "2")
	checkNoTurn(t, prog, "0 1 1")
	checkCells(t, "cells 0; thread; jump 0 == 0 0; thread; jump 0 == 0 0; thread; jump 0 == 0 0; thread; jump 0 == 0 0", "", "hung 0 1 2 3; ready ")
}

// Once the state is bad it stays so; nobody stops for it.
func TestBadStates(t *testing.T) {
	checkCells(t, "cells 0; thread; assert 0 == 1; set r1 4; fence; set r2 5; thread; fence", "", "bad true; at 2 0; regs 4/; ready 0:0 1:0")
	checkCells(t, "cells 0; thread; assert 0 == 1; set r1 4; fence; set r2 5; thread; fence", "0 1", "bad true; at 4 1; regs 4 5/; ready ")
	checkCells(t, "cells 0; thread; assert 0 == 1; assert 0 == 0", "", "bad true; at 2")
	checkCells(t, "cells 0; thread; assert 0 == 0; assert 0 == 1; assert 0 == 0", "", "bad true; at 3")
	checkCells(t, "cells 0; thread; assert 0 == 0; thread; assert 1 == 0; thread; assert 0 == 0", "", "bad true; at 1 1 1")
	checkCells(t, "cells 0; thread; fence; assert r1 != 0; fence; assert 0 == 0; thread; fence", "", "bad false")
	checkCells(t, "cells 0; thread; fence; assert r1 != 0; fence; assert 0 == 0; thread; fence", "1", "bad false")
	checkCells(t, "cells 0; thread; fence; assert r1 != 0; fence; assert 0 == 0; thread; fence", "0", "bad true")
	checkCells(t, "cells 0; thread; fence; assert r1 != 0; fence; assert 0 == 0; thread; fence", "0 0 1", "bad true; ready ")
	// It is not the assert's place that counts but that it is done.
	checkCells(t, "cells 0; thread; jump 0 == 0 2; assert 0 == 1; fence", "0", "bad false; at 3")
	// A hung one may be bad, and may be hung ahead of it.
	checkCells(t, "cells 0; thread; assert 0 == 1; jump 0 == 0 0", "", "bad true; hung 0")
	checkCells(t, "cells 0; thread; "+quietRow(0, 100)+"assert 0 == 1", "", "bad false; hung 0")
	checkCells(t, "cells 0; thread; "+strings.TrimSuffix(quietRow(0, 99), "set r5 1; ")+"assert 0 == 1", "", "bad true; hung ")
}

func TestCalls(t *testing.T) {
	// At the beginning they begin and end at 0.
	checkCells(t, "cells 0; thread; call 1 7; ret 3", "", "calls 0:1(7)=3@0-0")
	checkCells(t, "cells 0; thread; call 0 0; ret 0", "", "calls 0:0(0)=0@0-0")
	checkCells(t, "cells 0; thread; call 99 -7", "", "calls 0:99(-7)@0")
	checkCells(t, "cells 0; thread; call 1 7; fence; ret 3", "", "calls 0:1(7)@0")
	checkCells(t, "cells 0; thread; call 1 7; fence; ret 3", "0", "calls 0:1(7)=3@0-1")
	checkCells(t, "cells 0; thread; call 1 7; fence; fence; ret -3; call 2 8", "0", "calls 0:1(7)@0")
	checkCells(t, "cells 0; thread; call 1 7; fence; fence; ret -3; call 2 8", "0 0", "calls 0:1(7)=-3@0-2 0:2(8)@2")
	// In one turn.
	checkCells(t, "cells 0; thread; fence; call 1 7; ret 3", "0", "calls 0:1(7)=3@1-1")
	checkCells(t, "cells 0; thread; fence; fence; fence; call 1 7; ret 3", "0 0 0", "calls 0:1(7)=3@3-3")
	// The turns of all threads are counted.
	prog := "cells 0; thread; fence; call 1 7; fence; ret 3; thread; call 2 4; fence; fence; ret 5; call 3 6"
	checkCells(t, prog, "", "calls 1:2(4)@0")
	checkCells(t, prog, "1 0", "calls 1:2(4)@0 0:1(7)@2")
	checkCells(t, prog, "1 0 1", "calls 1:2(4)=5@0-3 0:1(7)@2 1:3(6)@3")
	checkCells(t, prog, "1 0 1 0", "calls 1:2(4)=5@0-3 0:1(7)=3@2-4 1:3(6)@3")
	checkCells(t, prog, "0 0 1 1", "calls 1:2(4)=5@0-4 0:1(7)=3@1-2 1:3(6)@4")
	// In the order in which they began, at the beginning by threads.
	checkCells(t, "cells 0; thread; call 1 0; call 2 0; thread; thread; call 3 0; ret 9; thread; call 4 0", "", "calls 0:1(0)@0 0:2(0)@0 2:3(0)=9@0-0 3:4(0)@0")
	// Arguments and results are registers as they stand then.
	checkCells(t, "cells 5; thread; set r1 2; call 1 r1; load r1 c0 seq; ret r1; set r1 0", "0", "calls 0:1(2)=5@0-1; regs ")
	// A result of 0 is one.
	checkCells(t, "cells 5; thread; call 1 2; fence; ret 0; fence", "0", "calls 0:1(2)=0@0-1")
}

// A ret with no open call of its thread does nothing; a call while one is open ends nothing, and ret ends the one that began last.
func TestCallsThatAreOpen(t *testing.T) {
	checkCells(t, "cells 0; thread; ret 4; call 1 7", "", "calls 0:1(7)@0")
	checkCells(t, "cells 0; thread; ret 4", "", "calls ; at 1; bad false")
	checkCells(t, "cells 0; thread; call 1 7; thread; ret 4", "", "calls 0:1(7)@0")
	checkCells(t, "cells 0; thread; call 1 7; ret 4; ret 5", "", "calls 0:1(7)=4@0-0")
	checkCells(t, "cells 0; thread; call 1 7; ret 4; fence; ret 5", "0", "calls 0:1(7)=4@0-0")
	checkCells(t, "cells 0; thread; call 1 7; call 2 8", "", "calls 0:1(7)@0 0:2(8)@0")
	checkCells(t, "cells 0; thread; call 1 7; call 2 8; ret 5", "", "calls 0:1(7)@0 0:2(8)=5@0-0")
	checkCells(t, "cells 0; thread; call 1 7; call 2 8; ret 5; ret 6", "", "calls 0:1(7)=6@0-0 0:2(8)=5@0-0")
	checkCells(t, "cells 0; thread; call 1 7; call 2 8; ret 5; ret 6; ret 9", "", "calls 0:1(7)=6@0-0 0:2(8)=5@0-0")
	checkCells(t, "cells 0; thread; call 1 7; fence; call 2 8; fence; ret 5; fence; ret 6", "0 0", "calls 0:1(7)@0 0:2(8)=5@1-2")
	checkCells(t, "cells 0; thread; call 1 7; fence; call 2 8; fence; ret 5; fence; ret 6", "0 0 0", "calls 0:1(7)=6@0-3 0:2(8)=5@1-2")
	checkCells(t, "cells 0; thread; call 1 7; call 2 8; ret 5; call 3 9; ret 6; ret 4", "", "calls 0:1(7)=4@0-0 0:2(8)=5@0-0 0:3(9)=6@0-0")
	// The last one of its own thread.
	prog := "cells 0; thread; call 1 7; fence; ret 5; thread; fence; call 2 8; fence; ret 6"
	checkCells(t, prog, "1 0", "calls 0:1(7)=5@0-2 1:2(8)@1")
	checkCells(t, prog, "1 1 0", "calls 0:1(7)=5@0-3 1:2(8)=6@1-2")
	// As many as can be.
	loop := "cells 0; thread; fence; call 1 r1; sum r1 1; jump 0 == 0 0"
	s, code, _ := impl.Play(cellsOf(t, loop), turnsOf(t, "0*200"))
	if code != impl.OK || len(s.Calls) != 200 {
		t.Fatalf("%s, %d calls", impl.CodeWord(code), len(s.Calls))
	}
	for i, c := range s.Calls {
		if c != (impl.Call{Op: 1, Arg: i, From: i + 1, To: -1}) {
			t.Errorf("call %d: %v", i, c)
		}
	}
	var many []string
	for i := range 50 {
		many = append(many, fmt.Sprintf("0:2(%d)@0", i))
	}
	checkCells(t, "cells 0; thread; call 2 r1; sum r1 1; jump r1 < 33 0; call 2 r1", "", "hung ; calls "+strings.Join(many[:34], " "))
	checkCells(t, "cells 0; thread; call 2 r1; sum r1 1; jump 0 == 0 0; call 2 r1", "", "hung 0; calls "+strings.Join(many[:34], " "))
}

// The turns that can come next, by thread and then by Choice.
func TestReady(t *testing.T) {
	prog := "cells 0 0; thread; store c0 1 relaxed; store c1 1 release; thread; load r1 c0 relaxed; load r1 c1 acquire; thread; await r1 c1 == 1 acquire; add r2 c0 1 relaxed; thread; jump 0 == 0 0"
	checkCells(t, prog, "", "ready 0:0 1:0")
	checkCells(t, prog, "0", "ready 0:0 1:0 1:1")
	checkCells(t, prog, "0 0", "ready 1:0 1:1 2:0")
	checkCells(t, prog, "0 0 2", "ready 1:0 1:1 2:0")
	checkCells(t, prog, "0 0 2 2", "ready 1:0 1:1 1:2")
	checkCells(t, prog, "0 0 2 2 1:2", "ready 1:0 1:1")
	checkCells(t, prog, "0 0 2 2 1:2 1:1", "ready ; at 2 2 2 0")
	// At the end of all threads; where an await cannot go on; with nothing to do.
	checkCells(t, "cells 0; thread; fence", "0", "ready ")
	checkCells(t, "cells 0; thread; await r1 c0 == 1 seq; thread; await r1 c0 != 0 acquire", "", "ready ; at 0 0")
	checkCells(t, "cells 0; thread; await r1 c0 == 1 seq; thread; fence", "", "ready 1:0")
	checkCells(t, "cells 0; thread; await r1 c0 == 1 seq; thread; fence", "1", "ready ; at 0 1")
	checkCells(t, "cells 0; thread; thread; thread; thread", "", "ready ")
	// Each turn that is told can be, and no other one.
	p := cellsOf(t, prog)
	for _, turns := range []string{"", "0", "0 0", "0 0 2", "0 0 2 2"} {
		list := turnsOf(t, turns)
		ready, _ := impl.Ready(p, list)
		for thread := range 5 {
			for choice := range 5 {
				turn := impl.Turn{Thread: thread, Choice: choice}
				_, code, _ := impl.Play(p, append(list[:len(list):len(list)], turn))
				isReady := false
				for _, r := range ready {
					isReady = isReady || r == turn
				}
				if isReady != (code == impl.OK) {
					t.Errorf("%s, then %v: %s", turns, turn, impl.CodeWord(code))
				}
			}
		}
	}
}
