package tests

import (
	"math"
	"slices"
	"testing"

	"loop.example/g00045/impl"
)

func TestReduceConstants(t *testing.T) {
	if impl.MaxRuns != 2000 {
		t.Errorf("MaxRuns %d", impl.MaxRuns)
	}
}

// checkBothWays: whether two are apart, in each order of them.
func checkBothWays(t *testing.T, a, b impl.Ins, want bool) {
	t.Helper()
	if impl.Apart(a, b) != want || impl.Apart(b, a) != want {
		t.Errorf("%s and %s: %t, the other way %t, not %t", toldRawIns(a), toldRawIns(b), impl.Apart(a, b), impl.Apart(b, a), want)
	}
	if wantApart(a, b) != want || wantApart(b, a) != want {
		t.Fatalf("%s and %s: the second telling has not %t", toldRawIns(a), toldRawIns(b), want)
	}
}

// apartOnOne: of each two steps, by their Ops, whether they are apart on one cell, where they are not both seq.
var apartOnOne = []string{
	"",
	//load store swap add cas await fence
	" x....xx",
	" ......x",
	" ......x",
	" ......x",
	" ......x",
	" x....xx",
	" xxxxxx.",
}

func TestApartEachPair(t *testing.T) {
	for a := 1; a <= 7; a++ {
		for b := 1; b <= 7; b++ {
			for _, seqs := range [][2]bool{{false, false}, {true, false}, {false, true}, {true, true}} {
				x, y := apartStep(a, seqs[0], 3), apartStep(b, seqs[1], 3)
				isOne := (seqs[0] || a == 7) && (seqs[1] || b == 7)
				checkBothWays(t, x, y, apartOnOne[a][b] == 'x' && !isOne)
				y.Cell = 2
				checkBothWays(t, x, y, !isOne)
			}
		}
	}
}

// apartStep: a right one of that Op, of order seq or of none like it.
func apartStep(op int, isSeq bool, cell int) impl.Ins {
	x := plainIns(op)
	x.Cell = cell
	if orders := opOrders(op); len(orders) > 0 && !isSeq {
		x.Order = orders[0]
	}
	if op == impl.CoFence {
		x.Cell = 0
	}
	return x
}

// All orders but seq are alike, those that such a step cannot have, too; a fence is like seq whatever its Order.
func TestApartOrders(t *testing.T) {
	orders := slices.Concat([]int{-5, 0, 1, 2, 3, 4, 5, 6, 7, 10, 50, 1<<32 + 5}, anyNumbers)
	for a := 1; a <= 7; a++ {
		for b := 1; b <= 7; b++ {
			for _, one := range orders {
				for _, other := range orders {
					isSeq := (a == 7 || one == 5) && (b == 7 || other == 5)
					checkBothWays(t, impl.Ins{Op: a, Order: one}, impl.Ins{Op: b, Order: other}, apartOnOne[a][b] == 'x' && !isSeq)
					checkBothWays(t, impl.Ins{Op: a, Order: one, Cell: 1}, impl.Ins{Op: b, Order: other, Cell: 7}, !isSeq)
				}
			}
		}
	}
}

// Cells are held against each other as numbers, whether or not there are such cells; that of a fence is not asked.
func TestApartCells(t *testing.T) {
	cells := slices.Concat([]int{0, 1, 7, 8, -1, math.MaxInt, math.MinInt, 1 << 32, 1<<32 + 1}, anyNumbers)
	for _, one := range cells {
		for _, other := range cells {
			store, load := impl.Ins{Op: impl.CoStore, Cell: one, Order: 1}, impl.Ins{Op: impl.CoLoad, Cell: other, Order: 1}
			checkBothWays(t, store, load, one != other)
			checkBothWays(t, load, impl.Ins{Op: impl.CoAwait, Cell: one, Order: 5}, true)
			checkBothWays(t, store, impl.Ins{Op: impl.CoFence, Cell: other}, true)
			checkBothWays(t, impl.Ins{Op: impl.CoFence, Cell: one}, impl.Ins{Op: impl.CoFence, Cell: other}, false)
			checkBothWays(t, impl.Ins{Op: impl.CoFence, Cell: one}, impl.Ins{Op: impl.CoAdd, Cell: other, Order: 5}, false)
		}
	}
}

// Quiet instructions, and Ops that are none, are apart from nothing.
func TestApartOtherOps(t *testing.T) {
	ops := slices.Concat([]int{8, 9, 10, 11, 12, 13, 14, 15, 0, -1, -7, math.MaxInt, math.MinInt, 1<<32 + 1, 1<<32 + 7, 257, 263}, anyNumbers)
	ops = slices.DeleteFunc(ops, func(op int) bool { return 1 <= op && op <= 7 })
	for _, op := range ops {
		for other := -1; other <= 15; other++ {
			for _, order := range []int{0, 1, 5} {
				for _, cell := range []int{0, 1} {
					checkBothWays(t, impl.Ins{Op: op, Order: order}, impl.Ins{Op: other, Cell: cell, Order: 1}, false)
					checkBothWays(t, impl.Ins{Op: op, Order: order}, impl.Ins{Op: op, Cell: cell, Order: 1}, false)
				}
			}
		}
	}
	checkBothWays(t, impl.Ins{}, impl.Ins{}, false)
}

func anyVal(s source) impl.Val { return impl.Val{Reg: pick(s, anyNumbers), Num: pick(s, anyNumbers)} }

// wildIns: of any make, more often than not a step on memory.
func wildIns(s source) impl.Ins {
	x := impl.Ins{Op: 1 + s.IntN(7), Cell: s.IntN(3), Order: s.IntN(7), Reg: pick(s, anyNumbers), A: anyVal(s), B: anyVal(s), Cond: pick(s, anyNumbers), To: pick(s, anyNumbers)}
	switch s.IntN(6) {
	case 0:
		x.Op = pick(s, anyNumbers)
	case 1:
		x.Cell = pick(s, anyNumbers)
	case 2:
		x.Order = pick(s, anyNumbers)
	}
	return x
}

// The other fields are not asked, whatever is in them.
func TestApartOtherFields(t *testing.T) {
	s := newSource()
	var counts [2]int
	for range 20000 {
		a, b := wildIns(s), wildIns(s)
		bare := func(x impl.Ins) impl.Ins { return impl.Ins{Op: x.Op, Cell: x.Cell, Order: x.Order} }
		want := wantApart(a, b)
		checkBothWays(t, a, b, want)
		checkBothWays(t, bare(a), bare(b), want)
		checkBothWays(t, a, a, wantApart(a, a))
		if want {
			counts[1]++
		} else {
			counts[0]++
		}
	}
	if min(counts[0], counts[1]) < 3000 {
		t.Errorf("%v", counts)
	}
}
