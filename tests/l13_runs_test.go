package tests

import (
	"fmt"
	"math/big"
	"strings"
	"testing"

	"loop.example/g00045/impl"
)

// checkRunsAre: Runs answers that number, or that code and 0.
func checkRunsAre(t *testing.T, prog string, want *big.Int, code int) {
	t.Helper()
	got, gotCode := impl.Runs(cellsOf(t, prog), impl.MaxStates)
	if gotCode != code || big.NewInt(int64(got)).Cmp(want) != 0 {
		t.Errorf("%s: %d, %s, not %s, %s", prog, got, impl.CodeWord(gotCode), want, impl.CodeWord(code))
	}
}

func TestRunsCountedByHand(t *testing.T) {
	// No turn at all is one row.
	checkMap(t, "cells 0; thread", "runs 1")
	checkMap(t, "cells 0; thread; await r1 c0 == 1 relaxed", "runs 1")
	checkMap(t, "cells 0; thread; jump 0 == 0 0", "runs 1")
	checkMap(t, "cells 0; thread; fence; fence; fence", "runs 1")
	// Rows that come together again are rows each.
	checkMap(t, "cells 5; thread; store c0 5 relaxed; thread; load r1 c0 relaxed", "runs 3; states 5")
	// A load of four messages, and what a second one can still read of them.
	stores := "cells 0 0; thread; store c0 1 relaxed; store c0 2 relaxed; store c0 3 relaxed; store c1 1 relaxed; thread; await r1 c1 == 1 relaxed"
	checkMap(t, stores, "runs 1")
	checkMap(t, stores+"; load r1 c0 relaxed", "runs 4")
	checkMap(t, stores+"; load r1 c0 relaxed; load r1 c0 relaxed", "runs 10")
	checkMap(t, stores+"; load r1 c0 relaxed; load r1 c0 relaxed; load r1 c0 relaxed", "runs 20")
	checkMap(t, stores+"; await r1 c0 != 2 relaxed", "runs 3")
	checkMap(t, stores+"; await r1 c0 == 7 relaxed", "runs 1; stuck 1")
	// Ends that are stuck, hung or bad are ends.
	checkMap(t, "cells 0; thread; fence; await r1 c0 == 1 relaxed; thread; fence; jump 0 == 0 1; thread; fence; assert 0 == 1", "runs 6; stuck 1; hung 4; bad 4")
	// Rows of several lengths.
	checkMap(t, "cells 0; thread; store c0 1 relaxed; thread; load r1 c0 relaxed; jump r1 == 1 3; fence; set r1 0", "runs 4")
	// 2 for each of 49 turns: either thread adds, and neither knows who did ahead of the last time.
	checkRunsAre(t, "cells 0; thread; add r1 c0 1 seq; set r1 0; jump 0 == 0 0; thread; add r1 c0 1 seq; set r1 0; jump 0 == 0 0", big.NewInt(1<<49), impl.OK)
}

func choose(n, k int) *big.Int { return new(big.Int).Binomial(int64(n), int64(k)) }

// Turns of threads that have nothing to do with one another come in any order.
func TestRunsOfFences(t *testing.T) {
	for _, c := range [][2]int{{0, 0}, {0, 40}, {1, 1}, {1, 40}, {2, 2}, {5, 9}, {10, 10}, {20, 40}, {30, 30}, {31, 31}, {31, 32}, {27, 40}, {28, 40}, {26, 40}, {32, 32}, {32, 33}, {33, 33}, {34, 34}, {35, 35}, {29, 40}, {30, 40}, {38, 40}, {39, 39}, {39, 40}, {40, 40}} {
		want, code := choose(c[0]+c[1], c[0]), impl.OK
		if want.Cmp(mostRows) > 0 {
			want, code = new(big.Int), impl.ErrRange
		}
		checkRunsAre(t, "cells 0"+fenceRow(c[0])+fenceRow(c[1]), want, code)
		checkRunsAre(t, "cells 0"+fenceRow(c[1])+fenceRow(c[0]), want, code)
	}
	three := new(big.Int).Mul(choose(42, 9), choose(33, 14))
	checkRunsAre(t, "cells 0"+fenceRow(9)+fenceRow(14)+fenceRow(19), three, impl.OK)
	checkRunsAre(t, "cells 0"+fenceRow(6)+fenceRow(6)+fenceRow(6)+fenceRow(6), big.NewInt(2308743493056), impl.OK)
	checkRunsAre(t, "cells 0"+fenceRow(13)+fenceRow(13)+fenceRow(14), new(big.Int).Mul(choose(40, 13), choose(27, 13)), impl.OK)
}

// choiceRows: a program with as many rows as told. Thread 0 writes six cells, so that each has that many messages, and behind each cell tells all of it by a release. Then the other threads, one behind the other, read each of the six cells: if it is one of the first leave messages, that is the row's end, else they come to know the cell's last message. The last one of the eighteen reads chooses from last messages, and is the row's end.
func choiceRows(messages, leave, last int) string {
	out := []string{"cells 0 0 0 0 0 0 0 0", "thread"}
	for cell := range 6 {
		out = append(out, "set r1 1", fmt.Sprintf("store c%d r1 relaxed", cell), "sum r1 1", fmt.Sprintf("jump r1 < %d %d", messages, 5*cell+1), fmt.Sprintf("store c7 %d release", cell+1))
	}
	out = append(out, "store c6 1 relaxed")
	for thread, end := range []int{20, 20, 17} {
		out = append(out, "thread", fmt.Sprintf("await r1 c6 == %d relaxed", thread+1))
		for cell := range end / 3 {
			out = append(out, fmt.Sprintf("load r1 c%d relaxed", cell), fmt.Sprintf("jump r1 < %d %d", leave, end), fmt.Sprintf("await r1 c7 == %d acquire", cell+1))
		}
		out = append(out, fmt.Sprintf("store c6 %d relaxed", thread+2))
	}
	out[len(out)-1] = fmt.Sprintf("await r1 c5 < %d relaxed", last)
	return strings.Join(out, "; ")
}

// choiceCount: what choiceRows comes to.
func choiceCount(messages, leave, last int) *big.Int {
	count := big.NewInt(int64(last))
	for range 17 {
		count.Mul(count, big.NewInt(int64(messages-leave)))
		count.Add(count, big.NewInt(int64(leave)))
	}
	return count
}

// MaxCount rows can be told, one more cannot.
func TestRunsJustMaxCount(t *testing.T) {
	if choiceCount(19, 9, 9).Cmp(mostRows) != 0 || choiceCount(10, 0, 10).Cmp(new(big.Int).Add(mostRows, big.NewInt(1))) != 0 {
		t.Fatal("the programs have another number of rows")
	}
	checkRunsAre(t, choiceRows(19, 9, 9), mostRows, impl.OK)
	checkRunsAre(t, choiceRows(10, 0, 10), new(big.Int), impl.ErrRange)
	counts := map[int]int{}
	for _, c := range [][3]int{{2, 0, 2}, {2, 1, 1}, {3, 1, 1}, {5, 2, 5}, {9, 0, 9}, {10, 0, 9}, {10, 0, 1}, {11, 1, 9}, {15, 5, 9}, {19, 9, 1}, {19, 9, 8}, {19, 9, 10}, {19, 9, 19}, {11, 1, 10}, {11, 0, 1}, {11, 0, 2}, {11, 0, 5}, {12, 2, 9}, {12, 0, 12}, {30, 0, 30}, {50, 0, 50}, {49, 3, 7}} {
		want, code := choiceCount(c[0], c[1], c[2]), impl.OK
		if want.Cmp(mostRows) > 0 {
			want, code = new(big.Int), impl.ErrRange
		}
		counts[code]++
		checkRunsAre(t, choiceRows(c[0], c[1], c[2]), want, code)
	}
	if min(counts[impl.OK], counts[impl.ErrRange]) < 8 {
		t.Errorf("%v", counts)
	}
}

// A state that turns lead back to is a loop, whether or not an end can be reached from it, and wherever it stands.
func TestRunsInLoops(t *testing.T) {
	for _, prog := range []string{
		"cells 0; thread; fence; jump 0 == 0 0",
		"cells 0; thread; load r1 c0 relaxed; jump r1 == 0 0",
		"cells 0; thread; load r1 c0 relaxed; jump r1 == 0 0; thread; store c0 1 relaxed",
		"cells 0; thread; fence; load r1 c0 relaxed; fence; load r1 c0 relaxed; jump r1 == 0 3",
		// Of two turns, and of several.
		"cells 0; thread; fence; set r1 0; fence; set r1 1; jump 0 == 0 0",
		"cells 0; thread; fence; load r1 c0 seq; fence; await r1 c0 == 0 acquire; jump 0 == 0 0",
		// Only behind some choice, and only behind another thread's turn.
		"cells 0; thread; store c0 1 relaxed; thread; load r1 c0 relaxed; jump r1 == 1 3; jump 0 == 0 4; fence; jump r1 == 1 3",
		"cells 0; thread; await r1 c0 == 1 relaxed; fence; jump 0 == 0 1; thread; store c0 1 relaxed",
		// Where another thread goes on to its end, or is stuck or hung.
		"cells 0; thread; cas r1 c0 1 2 both; jump 0 == 0 0; thread; fence; fence",
		"cells 0; thread; cas r1 c0 1 2 both; jump 0 == 0 0; thread; await r1 c0 == 1 relaxed",
		"cells 0; thread; cas r1 c0 1 2 both; jump 0 == 0 0; thread; jump 0 == 0 0",
		// A cell that is full stops no load.
		"cells 0; thread; store c0 1 relaxed; sum r1 1; jump r1 < 49 0; load r2 c0 relaxed; jump 0 == 0 3",
		// Too many rows come behind it.
		"cells 0" + fenceRow(38) + fenceRow(38) + "; thread; fence; jump 0 == 0 0",
		choiceRows(10, 0, 10) + "; fence; jump 0 == 0 17",
	} {
		checkRunsAre(t, prog, new(big.Int), impl.ErrLoop)
		p := cellsOf(t, prog)
		if r, _ := impl.Explore(p, impl.MaxStates); r.States < 300 {
			checkSameRuns(t, p, impl.MaxStates)
		}
	}
	// Going back in the program is none, where something goes on.
	checkMap(t, "cells 0; thread; fence; sum r1 1; jump r1 < 60 0", "runs 1; states 61")
	checkMap(t, "cells 0; thread; add r1 c0 1 seq; jump 0 == 0 0", "runs 1; states 50")
	checkMap(t, "cells 0; thread; await r1 c0 == 1 relaxed; jump 0 == 0 0", "runs 1; states 1; stuck 1")
	checkMap(t, "cells 0; thread; load r1 c0 relaxed; jump r1 == 1 1; jump 0 == 0 3", "runs 1; states 2")
	// A loop behind states that are too many is not met.
	checkMapCode(t, "a loop", cellsOf(t, "cells 0; thread; fence; jump 0 == 0 0; thread; fence"), 1, impl.ErrFuel)
}

// The count is that of all rows, played one by one.
func TestRunsOneByOne(t *testing.T) {
	s := newSource()
	counts, most := 0, 0
	for range 4000 {
		p := fewCells(s)
		rows, isWhole := rowsOneByOne(p, 3000)
		if !isWhole {
			continue
		}
		got, code := impl.Runs(p, impl.MaxStates)
		if code != impl.OK || got != len(rows) {
			t.Fatalf("%s%d, %s, not %d", showCells(p), got, impl.CodeWord(code), len(rows))
		}
		most = max(most, got)
		if got > 5 {
			counts++
		}
	}
	if counts < 300 || most < 300 {
		t.Errorf("%d of more than five, at most %d", counts, most)
	}
}
