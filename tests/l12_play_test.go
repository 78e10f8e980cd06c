package tests

import (
	"fmt"
	"math"
	"slices"
	"strings"
	"testing"

	"loop.example/g00045/impl"
)

// loopingLoad has as many turns as one likes, of each thread; c0 has two messages behind the first turn of thread 1.
const loopingLoad = "cells 0; thread; load r1 c0 relaxed; jump 0 == 0 0; thread; store c0 1 relaxed"

// checkPlayCode: Play answers that code and that number, Ready that code, and both nothing else.
func checkPlayCode(t *testing.T, what string, p impl.Prog, turns []impl.Turn, code, number int) {
	t.Helper()
	if s, got, at := impl.Play(p, turns); got != code || at != number || code != impl.OK && !isNoState(s) {
		t.Errorf("%s: %s at %d, not %s at %d: %s", what, impl.CodeWord(got), at, impl.CodeWord(code), number, showMemory(s))
	}
	if ready, got := impl.Ready(p, turns); got != code || code != impl.OK && len(ready) > 0 {
		t.Errorf("%s: Ready: %s, not %s: %s", what, impl.CodeWord(got), impl.CodeWord(code), toldTurns(ready))
	}
}

func wrongProgs() []impl.Prog {
	return []impl.Prog{{}, {Init: []int{0}}, {Init: []int{1e18}, Threads: [][]impl.Ins{nil}}, {Init: []int{0}, Threads: [][]impl.Ins{{{}}}}, {Init: []int{0}, Threads: make([][]impl.Ins, millions)}, {Init: []int{0}, Threads: [][]impl.Ins{{{Op: 1, Reg: 1, Order: 1}, {Op: 10, Cond: 1, To: 3}}}}}
}

func TestPlayHowManyTurns(t *testing.T) {
	p := cellsOf(t, loopingLoad)
	turns := repeated(millions, impl.Turn{})
	for _, count := range []int{0, 1, 2, 199, 200} {
		checkPlayCode(t, fmt.Sprint(count, " turns"), p, turns[:count], impl.OK, 0)
		if ready, _ := impl.Ready(p, turns[:count]); toldTurns(ready) != "0:0 1:0" {
			t.Errorf("%d turns: ready %s", count, toldTurns(ready))
		}
		for _, wrong := range wrongProgs() {
			checkPlayCode(t, fmt.Sprint(count, " turns of a wrong program"), wrong, turns[:count], impl.ErrBad, 0)
		}
	}
	for _, count := range []int{201, 202, 4095, 4096} {
		checkPlayCode(t, fmt.Sprint(count, " turns"), p, turns[:count], impl.ErrMany, 0)
		// Too many come ahead of one that cannot be.
		checkPlayCode(t, fmt.Sprint(count, " turns"), p, append([]impl.Turn{{Thread: 9}}, turns[1:count]...), impl.ErrMany, 0)
		for _, wrong := range wrongProgs() {
			checkPlayCode(t, fmt.Sprint(count, " turns of a wrong program"), wrong, turns[:count], impl.ErrBad, 0)
		}
	}
	for _, count := range []int{4097, 4098, millions} {
		checkPlayCode(t, fmt.Sprint(count, " turns"), p, turns[:count], impl.ErrLong, 0)
		for _, wrong := range wrongProgs() {
			checkPlayCode(t, fmt.Sprint(count, " turns of a wrong program"), wrong, turns[:count], impl.ErrLong, 0)
		}
	}
}

// The first turn that cannot be, wherever it stands; those behind it are not looked at.
func TestPlayFirstTurnThatCannotBe(t *testing.T) {
	p := cellsOf(t, loopingLoad)
	for _, at := range []int{0, 1, 2, 7, 100, 198, 199} {
		for _, wrong := range []impl.Turn{{Thread: 2}, {Thread: -1}, {Choice: 1}, {Choice: -1}, {Thread: 1, Choice: 1}} {
			turns := repeated(200, impl.Turn{})
			turns[at] = wrong
			checkPlayCode(t, fmt.Sprint(wrong, " at ", at), p, turns, impl.ErrState, at)
			checkPlayCode(t, fmt.Sprint(wrong, " at ", at), p, turns[:at], impl.OK, 0)
			checkPlayCode(t, fmt.Sprint(wrong, " at ", at), p, turns[:at+1], impl.ErrState, at)
			turns[199] = impl.Turn{Thread: 77}
			checkPlayCode(t, fmt.Sprint(wrong, " at ", at), p, turns, impl.ErrState, at)
		}
	}
}

func TestPlayThreadsAndChoicesThatAreNone(t *testing.T) {
	p := cellsOf(t, "cells 0; thread; load r1 c0 relaxed; load r1 c0 relaxed; thread; store c0 1 relaxed; store c0 2 relaxed; fence; thread; add r1 c0 1 seq; thread")
	numbers := slices.Concat([]int{math.MinInt, -2, -1, 0, 1, 2, 3, 4, 5, 49, 50, 256, 1 << 32, 1<<32 + 1, math.MaxInt}, anyNumbers)
	for _, ahead := range []string{"", "1", "1 1", "1 1 2", "1 1 1", "1 1 0:2", "1 1 0:1", "1 1 0 0"} {
		turns := turnsOf(t, ahead)
		ready, _ := impl.Ready(p, turns)
		for _, thread := range numbers {
			for _, choice := range numbers {
				turn := impl.Turn{Thread: thread, Choice: choice}
				code, at := impl.ErrState, len(turns)
				if slices.Contains(ready, turn) {
					code, at = impl.OK, 0
				}
				checkPlayCode(t, fmt.Sprint(turn, " behind ", ahead), p, append(slices.Clip(turns), turn), code, at)
			}
		}
		checkSameCells(t, p, turns)
	}
}

// What a load may read: each message that is not below the thread's view of the cell, the last one first.
func TestPlayLoads(t *testing.T) {
	prog := "cells 7 0; thread; store c0 1 relaxed; store c0 2 relaxed; store c0 3 relaxed; thread; load r1 c0 relaxed; load r2 c0 relaxed; load r3 c0 relaxed; load r4 c1 relaxed"
	checkCells(t, prog, "", "ready 0:0 1:0; regs /; cells 7/0; seen 0 0/0 0; at 0 0")
	checkCells(t, prog, "1", "regs /7; seen 0 0/0 0; at 0 1")
	checkCells(t, prog, "0", "ready 0:0 1:0 1:1; cells 7 1/0; seen 1 0/0 0; at 1 0")
	checkCells(t, prog, "0 0 0", "ready 1:0 1:1 1:2 1:3; cells 7 1 2 3/0; seen 3 0/0 0; at 3 0")
	checkCells(t, prog, "0 0 0 1", "regs /3; seen 3 0/3 0; ready 1:0")
	checkCells(t, prog, "0 0 0 1:1", "regs /2; seen 3 0/2 0; ready 1:0 1:1")
	checkCells(t, prog, "0 0 0 1:2", "regs /1; seen 3 0/1 0; ready 1:0 1:1 1:2")
	checkCells(t, prog, "0 0 0 1:3", "regs /7; seen 3 0/0 0; ready 1:0 1:1 1:2 1:3")
	checkNoTurn(t, prog, "0 0 0 1:4")
	checkNoTurn(t, prog, "0 0 0 1:-1")
	// One read may see the same message again, and none ahead of it.
	checkCells(t, prog, "0 0 0 1:2 1:2", "regs /1 1; seen 3 0/1 0; ready 1:0 1:1 1:2")
	checkNoTurn(t, prog, "0 0 0 1:2 1:3")
	checkCells(t, prog, "0 0 0 1:2 1:1 1:1", "regs /1 2 2; seen 3 0/2 0; ready 1:0")
	checkNoTurn(t, prog, "0 0 0 1:2 1:1 1:2")
	checkNoTurn(t, prog, "0 0 0 1:0 1:1")
	// Messages that come later are not below.
	checkCells(t, prog, "0 1 0 0", "regs /1; ready 1:0 1:1 1:2")
	// The other cell is none of it.
	checkCells(t, prog, "0 0 0 1 1 1 1", "regs /3 3 3; seen 3 0/3 0; ready ; at 3 4")
	// Its own writes a thread has seen.
	checkCells(t, "cells 0; thread; store c0 1 relaxed; load r1 c0 relaxed; thread; store c0 2 relaxed", "0", "ready 0:0 1:0")
	checkCells(t, "cells 0; thread; store c0 1 relaxed; load r1 c0 relaxed; thread; store c0 2 relaxed", "1 0", "cells 0 2 1; seen 2/1; ready 0:0")
	checkCells(t, "cells 0; thread; store c0 1 relaxed; load r1 c0 relaxed; thread; store c0 2 relaxed", "0 1", "cells 0 1 2; seen 1/2; ready 0:0 0:1")
}

// A load of order seq first has the common view: of what was written with seq it reads the last.
func TestPlaySeqLoads(t *testing.T) {
	for _, c := range []struct{ store, load, ready string }{
		{"relaxed", "relaxed", "1:0 1:1 1:2"}, {"relaxed", "acquire", "1:0 1:1 1:2"}, {"relaxed", "seq", "1:0 1:1 1:2"},
		{"release", "relaxed", "1:0 1:1 1:2"}, {"release", "acquire", "1:0 1:1 1:2"}, {"release", "seq", "1:0 1:1 1:2"},
		{"seq", "relaxed", "1:0 1:1 1:2"}, {"seq", "acquire", "1:0 1:1 1:2"}, {"seq", "seq", "1:0"},
	} {
		prog := "cells 0; thread; store c0 1 " + c.store + "; store c0 2 " + c.store + "; thread; load r1 c0 " + c.load
		checkCells(t, prog, "0 0", "ready "+c.ready)
	}
	// The last one of seq, and what came behind it.
	checkCells(t, "cells 0; thread; store c0 1 relaxed; store c0 2 seq; store c0 3 relaxed; thread; load r1 c0 seq", "0 0 0", "ready 1:0 1:1; seen 3/0")
	checkCells(t, "cells 0; thread; store c0 1 relaxed; store c0 2 seq; store c0 3 relaxed; thread; load r1 c0 seq", "0 0 0 1:1", "regs /2; seen 3/2")
	checkNoTurn(t, "cells 0; thread; store c0 1 relaxed; store c0 2 seq; store c0 3 relaxed; thread; load r1 c0 seq", "0 0 0 1:2")
	// Ready turns nothing: a thread that has no turn has no new view either.
	checkCells(t, "cells 0 0; thread; store c0 1 seq; thread; load r1 c0 seq", "0", "seen 1 0/0 0; ready 1:0")
	checkCells(t, "cells 0 0; thread; store c0 1 seq; thread; await r1 c1 == 1 seq", "0", "seen 1 0/0 0; ready ")
}

// flagSteps: each write and each read of a flag, which is 0 at first and 1 then, with the orders that it may have.
var (
	flagWrites = map[string]string{"store c1 1": "relaxed release seq", "swap r1 c1 1": "relaxed acquire release both seq", "add r1 c1 1": "relaxed acquire release both seq", "cas r1 c1 0 1": "relaxed acquire release both seq"}
	flagReads  = map[string]string{"load r1 c1": "relaxed acquire seq", "await r1 c1 == 1": "relaxed acquire seq", "swap r1 c1 9": "relaxed acquire release both seq", "add r1 c1 9": "relaxed acquire release both seq", "cas r1 c1 1 9": "relaxed acquire release both seq", "cas r1 c1 5 9": "relaxed acquire release both seq"}
	gives      = []string{"release", "both", "seq"}
	takes      = []string{"acquire", "both", "seq"}
)

func eachStep(steps map[string]string, work func(step, order string)) {
	for step, orders := range steps {
		for _, order := range strings.Fields(orders) {
			work(step, order)
		}
	}
}

// Each order of a write of a flag with each order of a read of it: what was written ahead of it is seen just where the one gives and the other takes.
func TestPlayMessagesPassed(t *testing.T) {
	count := 0
	eachStep(flagWrites, func(write, gave string) {
		eachStep(flagReads, func(read, took string) {
			prog := "cells 0 0; thread; store c0 5 relaxed; " + write + " " + gave + "; thread; " + read + " " + took + "; load r2 c0 relaxed"
			if slices.Contains(gives, gave) && slices.Contains(takes, took) {
				checkSeen(t, prog, "0 0 1", "1", 0, 1)
				checkCells(t, prog, "0 0 1", "ready 1:0")
				checkNoTurn(t, prog, "0 0 1 1:1")
			} else {
				checkSeen(t, prog, "0 0 1", "1", 0, 0)
				checkCells(t, prog, "0 0 1", "ready 1:0 1:1")
				checkCells(t, prog, "0 0 1 1:1", "at 2 2")
			}
			count++
		})
	})
	if count != 18*26 {
		t.Errorf("%d", count)
	}
}

// checkSeen: behind these turns the thread's view of that cell is that number.
func checkSeen(t *testing.T, prog, turns, thread string, cell, want int) {
	t.Helper()
	p, list := cellsOf(t, prog), turnsOf(t, turns)
	s, code, _ := impl.Play(p, list)
	if number := numberOf(t, thread); code != impl.OK || s.Seen[number][cell] != want {
		t.Errorf("%s\n%s\n%s, seen %s, not %d", prog, turns, impl.CodeWord(code), toldRows(s.Seen), want)
	}
	checkSameCells(t, p, list)
}

// A swap, add or cas hands on what the message told that it read, whatever its own order; a store hands on nothing of it.
func TestPlayMessagesHandedOn(t *testing.T) {
	middles := map[string]string{"swap r1 c1 2": "relaxed acquire release both seq", "add r1 c1 1": "relaxed acquire release both seq", "cas r1 c1 1 2": "relaxed acquire release both seq", "store c1 2": "relaxed release seq"}
	eachStep(middles, func(middle, order string) {
		for _, gave := range []string{"relaxed", "release", "seq"} {
			for _, took := range []string{"relaxed", "acquire", "seq"} {
				prog := "cells 0 0 0; thread; store c0 5 relaxed; store c1 1 " + gave + "; thread; store c2 6 relaxed; " + middle + " " + order + "; thread; load r1 c1 " + took + "; load r2 c0 relaxed; load r3 c2 relaxed"
				isTaken, seen0, seen2 := took != "relaxed", 0, 0
				if isTaken && gave != "relaxed" && !strings.HasPrefix(middle, "store") || order == "seq" && gave == "seq" && isTaken || took == "seq" && gave == "seq" {
					seen0 = 1
				}
				if isTaken && slices.Contains(gives, order) {
					seen2 = 1
				}
				checkSeen(t, prog, "0 0 1 1 2", "2", 0, seen0)
				checkSeen(t, prog, "0 0 1 1 2", "2", 2, seen2)
				checkSeen(t, prog, "0 0 1 1 2", "2", 1, 2)
			}
		}
	})
}

// The thread in the middle of such a row does not take over what it hands on, unless its order takes.
func TestPlayMessagesHandedOnUnseen(t *testing.T) {
	for _, step := range []string{"swap r1 c1 2", "add r1 c1 1", "cas r1 c1 1 2"} {
		for order, want := range map[string]int{"relaxed": 0, "release": 0, "acquire": 1, "both": 1, "seq": 1} {
			prog := "cells 0 0; thread; store c0 5 relaxed; store c1 1 release; thread; " + step + " " + order + "; load r2 c0 relaxed"
			checkSeen(t, prog, "0 0 1", "1", 0, want)
		}
	}
	// Two of them, neither of which takes nor gives.
	prog := "cells 0 0; thread; store c0 5 relaxed; store c1 1 release; thread; add r1 c1 1 relaxed; thread; swap r1 c1 7 relaxed; thread; load r1 c1 acquire"
	checkCells(t, prog, "0 0 1 2 3", "cells 0 5/0 1 2 7; regs /1/2/7; seen 1 1/0 2/0 3/1 3")
	checkCells(t, prog, "0 0 1 2 3:1", "regs /1/2/2; seen 1 1/0 2/0 3/1 2")
	checkCells(t, prog, "0 0 1 2 3:3", "regs /1/2/; seen 1 1/0 2/0 3/0 0")
}

// A write that does not give tells of itself alone, even if the thread gave with an earlier one.
func TestPlayWritesTell(t *testing.T) {
	prog := "cells 0 0; thread; store c0 5 relaxed; store c1 1 release; store c1 2 relaxed; store c0 6 relaxed; thread; load r1 c1 acquire; load r2 c0 relaxed"
	checkCells(t, prog, "0 0 0 1", "regs /2; seen 1 2/0 2; ready 0:0 1:0 1:1")
	checkCells(t, prog, "0 0 0 1:1", "regs /1; seen 1 2/1 1; ready 0:0 1:0")
	checkCells(t, prog, "0 0 0 1:2", "regs /; seen 1 2/0 0; ready 0:0 1:0 1:1")
	// What the thread sees later is not told by what it wrote ahead.
	checkCells(t, prog, "0 0 0 0 1:1", "seen 2 2/1 1; ready 1:0 1:1")
	// A write tells what the thread has read, and what it took over by reading.
	prog = "cells 0 0 0; thread; store c0 5 relaxed; store c1 1 release; thread; load r1 c1 acquire; store c2 1 release; thread; load r1 c2 acquire; load r2 c0 relaxed; load r3 c1 relaxed"
	checkCells(t, prog, "0 0 1 1 2", "seen 1 1 0/1 1 1/1 1 1; ready 2:0")
	checkCells(t, prog, "0 0 1:1 1 2", "seen 1 1 0/0 0 1/0 0 1; ready 2:0 2:1")
	prog = strings.Replace(prog, "load r1 c1 acquire; store", "load r1 c1 relaxed; store", 1)
	checkCells(t, prog, "0 0 1 1 2", "seen 1 1 0/0 1 1/0 1 1; ready 2:0 2:1")
	// Reading an old message with acquire takes over what that one tells and no more.
	prog = "cells 0 0; thread; store c0 1 relaxed; store c1 1 release; store c0 2 relaxed; store c1 2 release; thread; load r1 c1 acquire; load r2 c0 relaxed"
	checkCells(t, prog, "0 0 0 0 1:1", "seen 2 2/1 1; ready 1:0 1:1")
	checkCells(t, prog, "0 0 0 0 1", "seen 2 2/2 2; ready 1:0")
}

// seqSteps: each step on memory as one of order seq on cell c1 or c2.
var seqSteps = []string{"load r1 c# seq", "await r1 c# == 0 seq", "store c# 1 seq", "swap r1 c# 1 seq", "add r1 c# 1 seq", "cas r1 c# 0 1 seq", "cas r1 c# 7 1 seq", "fence"}

// weakSteps: each step on memory with each order that is not seq.
func weakSteps() []string {
	var out []string
	for _, step := range seqSteps {
		word := strings.Fields(step)[0]
		for _, order := range []string{"relaxed", "acquire", "release", "both"} {
			if op := slices.Index(cellOps, word); slices.Contains(opOrders(op), slices.Index(cellOrders, order)) {
				out = append(out, strings.Replace(step, "seq", order, 1))
			}
		}
	}
	return out
}

// The common view: each step of order seq, and a fence, gives to it at last and takes from it at first; no other one does.
func TestPlayCommonView(t *testing.T) {
	all := slices.Concat(seqSteps, weakSteps())
	for i, give := range all {
		for k, take := range all {
			prog := "cells 0 0 0; thread; store c0 5 relaxed; " + strings.ReplaceAll(give, "#", "1") + "; thread; " + strings.ReplaceAll(take, "#", "2") + "; load r2 c0 relaxed"
			want := 0
			if i < len(seqSteps) && k < len(seqSteps) {
				want = 1
			}
			checkSeen(t, prog, "0 0 1", "1", 0, want)
			checkSeen(t, prog, "0 1 0", "1", 0, 0)
		}
	}
}

// What a step of order seq takes it has when it writes: its message tells it.
func TestPlayCommonViewIsTold(t *testing.T) {
	for _, step := range []string{"store c1 1 seq", "swap r1 c1 1 seq", "add r1 c1 1 seq", "cas r1 c1 0 1 seq"} {
		prog := "cells 0 0; thread; store c0 5 seq; thread; " + step + "; thread; load r1 c1 acquire; load r2 c0 relaxed"
		checkCells(t, prog, "0 1 2", "seen 1 0/1 1/1 1; ready 2:0")
		checkCells(t, prog, "1 0 2", "seen 1 1/0 1/0 1; ready 2:0 2:1")
	}
	// What it reads with seq it gives to the common view.
	prog := "cells 0 0; thread; store c0 5 relaxed; store c1 1 release; thread; load r1 c1 seq; thread; load r1 c0 seq"
	checkCells(t, prog, "0 0 1", "seen 1 1/1 1/0 0; ready 2:0")
	checkCells(t, prog, "0 0 1:1", "seen 1 1/0 0/0 0; ready 2:0 2:1")
	checkCells(t, prog, "0 0", "ready 1:0 1:1 2:0 2:1")
}

// Fences around relaxed steps: of two threads that each write and then look at the other's cell, one at least sees the other.
func TestPlayFences(t *testing.T) {
	prog := "cells 0 0; thread; store c0 1 relaxed; fence; load r1 c1 relaxed; thread; store c1 1 relaxed; fence; load r1 c0 relaxed"
	checkCells(t, prog, "0 1 0", "seen 1 0/0 1; at 2 1; ready 0:0 0:1 1:0")
	checkCells(t, prog, "0 1 0 1", "seen 1 0/1 1; at 2 2; ready 0:0 0:1 1:0")
	checkNoTurn(t, prog, "0 1 0 1 1:1")
	checkCells(t, prog, "0 1 0 1 0:1 1", "regs /1; at 3 3; ready ")
	// Without them neither may.
	prog = strings.ReplaceAll(prog, " fence;", "")
	checkCells(t, prog, "0 1 0:1 1:1", "regs /; at 2 2")
	checkCells(t, "cells 4; thread; fence", "0", "at 1; seen 0; cells 4; regs ; ready ")
	checkNoTurn(t, "cells 4; thread; fence", "0:1")
}

// What each step writes, reads and leaves in its register.
func TestPlaySwapAddCas(t *testing.T) {
	for _, order := range []string{"relaxed", "acquire", "release", "both", "seq"} {
		checkCells(t, "cells 3; thread; swap r2 c0 8 "+order, "0", "regs 0 3; cells 3 8; seen 1; ready ; at 1")
		checkCells(t, "cells 3; thread; add r2 c0 8 "+order, "0", "regs 0 3; cells 3 11; seen 1; ready ; at 1")
		checkCells(t, "cells 3; thread; add r2 c0 -8 "+order, "0", "regs 0 3; cells 3 -5; seen 1")
		checkCells(t, "cells 3; thread; cas r2 c0 3 8 "+order, "0", "regs 0 1; cells 3 8; seen 1; ready ; at 1")
		checkCells(t, "cells 3; thread; cas r2 c0 4 8 "+order, "0", "regs ; cells 3; seen 0; ready ; at 1")
		checkCells(t, "cells 3; thread; set r2 9; cas r2 c0 4 8 "+order, "0", "regs ; cells 3; seen 0")
		checkCells(t, "cells 3; thread; cas r2 c0 3 3 "+order, "0", "regs 0 1; cells 3 3; seen 1")
		// They read the last message, whatever the thread has seen, and a cas that does not write has seen it.
		for _, c := range []struct{ step, told string }{
			{"swap r1 c0 9", "regs /5; cells 3 4 5 9; seen 2/3"}, {"add r1 c0 9", "regs /5; cells 3 4 5 14; seen 2/3"},
			{"cas r1 c0 5 9", "regs /1; cells 3 4 5 9; seen 2/3"}, {"cas r1 c0 3 9", "regs /; cells 3 4 5; seen 2/2"}, {"cas r1 c0 4 9", "regs /; cells 3 4 5; seen 2/2"},
		} {
			prog := "cells 3; thread; store c0 4 relaxed; store c0 5 relaxed; thread; " + c.step + " " + order + "; load r2 c0 relaxed"
			checkCells(t, prog, "0 0", "ready 1:0")
			checkCells(t, prog, "0 0 1", c.told+"; ready 1:0")
			checkNoTurn(t, prog, "0 0 1:1")
		}
	}
	for _, order := range []string{"relaxed", "release", "seq"} {
		checkCells(t, "cells 3; thread; store c0 8 "+order, "0", "regs ; cells 3 8; seen 1; ready ; at 1")
		checkNoTurn(t, "cells 3; thread; store c0 8 "+order, "0:1")
	}
	for _, order := range []string{"relaxed", "acquire", "seq"} {
		checkCells(t, "cells 3; thread; load r6 c0 "+order, "0", "regs 0 0 0 0 0 3; cells 3; seen 0; ready ; at 1")
		checkCells(t, "cells 3; thread; await r6 c0 == 3 "+order, "0", "regs 0 0 0 0 0 3; cells 3; seen 0; ready ; at 1")
	}
}

// Values may be registers, the one that is set too: they are looked at ahead of it.
func TestPlayRegistersAsValues(t *testing.T) {
	checkCells(t, "cells 3; thread; set r1 7; store c0 r1 relaxed", "0", "cells 3 7; regs 7")
	checkCells(t, "cells 3; thread; store c0 r6 relaxed", "0", "cells 3 0; regs ")
	checkCells(t, "cells 3; thread; set r1 7; swap r1 c0 r1 relaxed", "0", "cells 3 7; regs 3")
	checkCells(t, "cells 3; thread; set r1 7; add r1 c0 r1 relaxed", "0", "cells 3 10; regs 3")
	checkCells(t, "cells 3; thread; set r1 7; set r2 2; swap r1 c0 r2 seq; add r2 c0 r1 both", "0 0", "cells 3 2 5; regs 3 2")
	checkCells(t, "cells 3; thread; set r1 3; cas r1 c0 r1 r1 relaxed", "0", "cells 3 3; regs 1")
	checkCells(t, "cells 3; thread; set r1 3; set r2 4; cas r1 c0 r1 r2 relaxed", "0", "cells 3 4; regs 1 4")
	checkCells(t, "cells 3; thread; set r1 3; set r2 4; cas r2 c0 r1 r2 relaxed", "0", "cells 3 4; regs 3 1")
	checkCells(t, "cells 3; thread; set r1 2; cas r1 c0 r1 9 relaxed", "0", "cells 3; regs ")
	checkCells(t, "cells 3; thread; set r1 2; await r1 c0 != r1 relaxed", "0", "regs 3")
	checkCells(t, "cells 3; thread; set r1 3; await r1 c0 != r1 relaxed", "", "ready ")
	// Registers are a thread's own.
	checkCells(t, "cells 3; thread; set r1 7; fence; store c0 r1 seq; thread; set r2 8; store c0 r1 seq; store c0 r2 seq", "0 0 1 1", "cells 3 7 0 8; regs 7/0 8")
}

func TestPlayAwaits(t *testing.T) {
	writer := "cells 5; thread; store c0 1 relaxed; store c0 5 relaxed; store c0 3 relaxed; store c0 5 relaxed; thread; "
	for _, c := range []struct{ cond, turns, told string }{
		{"== 5", "", "ready 0:0 1:0"},
		{"== 5", "0", "ready 0:0 1:0"},
		{"== 5", "0 1", "regs /5; seen 1/0"},
		{"== 5", "0 0 0 0", "ready 1:0 1:1 1:2"},
		{"== 5", "0 0 0 0 1", "regs /5; seen 4/4"},
		{"== 5", "0 0 0 0 1:1", "regs /5; seen 4/2"},
		{"== 5", "0 0 0 0 1:2", "regs /5; seen 4/0"},
		{"== 1", "", "ready 0:0"},
		{"== 1", "0", "ready 0:0 1:0"},
		{"== 1", "0 0 0 0", "ready 1:0"},
		{"== 1", "0 0 0 0 1", "regs /1; seen 4/1"},
		{"== 9", "0 0 0 0", "ready "},
		{"!= 5", "0 0 0 0", "ready 1:0 1:1"},
		{"!= 5", "0 0 0 0 1", "regs /3; seen 4/3"},
		{"!= 5", "0 0 0 0 1:1", "regs /1; seen 4/1"},
		{"< 3", "0 0 0 0", "ready 1:0"},
		{"< 3", "0 0 0 0 1", "regs /1; seen 4/1"},
		{"< 1", "0 0 0 0", "ready "},
		{"<= 3", "0 0 0 0", "ready 1:0 1:1"},
		{"<= 3", "0 0 0 0 1", "regs /3; seen 4/3"},
		{"<= 3", "0 0 0 0 1:1", "regs /1; seen 4/1"},
		{"<= 5", "0 0 0 0", "ready 1:0 1:1 1:2 1:3 1:4"},
		{"< r1", "0 0 0 0", "ready "},
		{"!= r1", "0 0 0 0", "ready 1:0 1:1 1:2 1:3 1:4"},
	} {
		for _, order := range []string{"relaxed", "acquire"} {
			checkCells(t, writer+"await r1 c0 "+c.cond+" "+order, c.turns, c.told)
		}
	}
	checkNoTurn(t, writer+"await r1 c0 == 1 relaxed", "1")
	checkNoTurn(t, writer+"await r1 c0 == 1 relaxed", "0 0 1:1")
	checkNoTurn(t, writer+"await r1 c0 == 5 relaxed", "0 0 0 0 1:3")
	checkNoTurn(t, writer+"await r1 c0 == 9 relaxed", "0 0 0 0 1")
	// What was passed is read no more: another read has seen a later message.
	twice := writer + "load r1 c0 relaxed; await r2 c0 == 1 relaxed"
	checkCells(t, twice, "0 0 1:1", "regs /1; ready 0:0 1:0")
	checkCells(t, twice, "0 0 1", "regs /5; ready 0:0")
	checkNoTurn(t, twice, "0 0 1 1")
	// Of order seq: what is below the common view is not waited for.
	seq := strings.ReplaceAll(writer, "relaxed", "seq")
	checkCells(t, seq+"await r1 c0 == 5 seq", "0", "ready 0:0")
	checkCells(t, seq+"await r1 c0 == 5 acquire", "0", "ready 0:0 1:0")
	checkCells(t, seq+"await r1 c0 == 5 seq", "0 0", "ready 0:0 1:0")
	checkCells(t, seq+"await r1 c0 == 5 seq", "0 0 0", "ready 0:0")
	checkCells(t, seq+"await r1 c0 == 1 seq", "0 0", "ready 0:0")
	checkNoTurn(t, seq+"await r1 c0 == 1 seq", "0 0 1")
}

// A thread at a store, swap, add or cas of a cell with MaxMessages messages has no turn; reads and other cells are as ever.
func TestPlayFullCells(t *testing.T) {
	filler := "cells 0 0; thread; store c0 1 relaxed; jump 0 == 0 0; thread; "
	for _, step := range []string{"store c0 2 relaxed", "store c0 2 release", "store c0 2 seq", "swap r1 c0 2 relaxed", "swap r1 c0 2 seq", "add r1 c0 0 both", "add r1 c0 2 seq", "cas r1 c0 1 2 acquire", "cas r1 c0 7 2 relaxed", "cas r1 c0 7 2 seq"} {
		checkCells(t, filler+step, "0*48", "ready 0:0 1:0")
		checkCells(t, filler+step, "0*49", "ready ; at 0 0; seen 49 0/0 0")
		checkNoTurn(t, filler+step, "0*49 1")
		checkNoTurn(t, filler+step, "0*49 0")
		if strings.HasPrefix(step, "cas r1 c0 7") {
			checkCells(t, filler+step, "0*48 1", "ready 0:0; at 0 1")
		} else {
			checkCells(t, filler+step, "0*48 1", "ready ; at 0 1")
		}
	}
	var all []string
	for choice := range 50 {
		all = append(all, fmt.Sprint("1:", choice))
	}
	checkCells(t, filler+"load r1 c0 relaxed", "0*49", "ready "+strings.Join(all, " "))
	checkCells(t, filler+"load r1 c0 relaxed", "0*49 1:49", "regs /; seen 49 0/0 0")
	checkCells(t, filler+"load r1 c0 relaxed", "0*49 1:48", "regs /1; seen 49 0/1 0")
	checkNoTurn(t, filler+"load r1 c0 relaxed", "0*49 1:50")
	checkCells(t, filler+"await r1 c0 == 0 relaxed", "0*49", "ready 1:0")
	checkCells(t, filler+"fence", "0*49", "ready 1:0")
	checkCells(t, filler+"store c1 1 relaxed", "0*49", "ready 1:0")
	checkCells(t, filler+"store c1 1 relaxed", "0*49 1", "ready ; seen 49 0/0 1")
	// By swap, add and cas it is filled as well; a cas that does not write fills nothing.
	for _, step := range []string{"swap r1 c0 1 relaxed", "add r1 c0 1 release", "cas r1 c0 0 0 both"} {
		checkCells(t, "cells 0; thread; "+step+"; jump 0 == 0 0", "0*49", "ready ; seen 49")
		checkNoTurn(t, "cells 0; thread; "+step+"; jump 0 == 0 0", "0*50")
	}
	checkCells(t, "cells 0; thread; cas r1 c0 1 1 seq; jump 0 == 0 0", "0*200", "ready 0:0; seen 0; cells 0")
	checkCells(t, "cells 0; thread; add r1 c0 1 seq; jump 0 == 0 0", "0*49", "cells "+toldInts(counted(50))+"; regs 48")
}

func counted(count int) []int {
	out := make([]int, count)
	for i := range out {
		out[i] = i
	}
	return out
}

// Sums of cells and of registers wrap as 64-bit numbers.
func TestPlaySumsWrap(t *testing.T) {
	// 16 times the greatest number that has a text, by doubling.
	big := "set r1 999999999999999999; sum r1 r1; sum r1 r1; sum r1 r1; sum r1 r1; "
	wrappedBig := fmt.Sprint(wrappingSum(16, 999999999999999999))
	checkCells(t, "cells 0; thread; "+big, "", "regs "+wrappedBig)
	checkCells(t, "cells 0; thread; "+strings.ReplaceAll(big, " 999", " -999"), "", "regs "+fmt.Sprint(wrappingSum(16, -999999999999999999)))
	add := "cells 0; thread; add r1 c0 999999999999999999 relaxed; jump 0 == 0 0"
	s, _, _ := impl.Play(cellsOf(t, add), turnsOf(t, "0*49"))
	for i, value := range s.Cells[0] {
		if value != wrappingSum(i, 999999999999999999) {
			t.Errorf("message %d: %d", i, value)
		}
	}
	if s.Cells[0][9] < 0 || s.Cells[0][10] > 0 {
		t.Errorf("%v", s.Cells[0])
	}
	// 2 to the 63 less one, and one more: the least number.
	most := "set r1 922337203685477580; set r2 r1; sum r1 r1; sum r1 r1; sum r1 r1; sum r1 r2; sum r1 r2; sum r1 7; "
	checkCells(t, "cells 0; thread; "+most, "", "regs 9223372036854775807 922337203685477580")
	checkCells(t, "cells 0; thread; "+most+"sum r1 1", "", "regs -9223372036854775808 922337203685477580")
	checkCells(t, "cells 0; thread; "+most+"sum r1 1; sum r1 -1", "", "regs 9223372036854775807 922337203685477580")
	checkCells(t, "cells 1; thread; "+most+"add r3 c0 r1 seq; load r4 c0 seq; sum r4 r4", "0 0", "cells 1 -9223372036854775808; regs 9223372036854775807 922337203685477580 1")
	checkCells(t, "cells 1; thread; "+most+"store c0 r1 seq; sum r1 1; call 3 r1; ret r1; assert r1 < 0; swap r5 c0 r1 seq", "0 0", "cells 1 9223372036854775807 -9223372036854775808; bad false; calls 0:3(-9223372036854775808)=-9223372036854775808@1-1")
	checkCells(t, "cells 1; thread; "+most+"set r2 r1; sum r2 1; store c0 r2 seq; await r3 c0 < r1 seq; thread; await r1 c0 <= -999999999999999999 acquire", "0 1", "regs 9223372036854775807 -9223372036854775808/-9223372036854775808")
}

func wrappingSum(times, number int) int {
	sum := 0
	for range times {
		sum = summed(sum, number)
	}
	return sum
}
