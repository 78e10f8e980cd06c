package tests

import (
	"math"
	"slices"
	"testing"

	"loop.example/g00045/impl"
)

// opsOf reads a row of operations, one behind the other by one thread, op(arg)=ret each.
func opsOf(t *testing.T, text string) []impl.Call {
	t.Helper()
	return inRow(callsOf(t, text))
}

func checkSerial(t *testing.T, kind int, h []impl.Call, want int) {
	t.Helper()
	if got, code := impl.Serial(kind, h); got != want || code != impl.OK {
		t.Errorf("kind %d, %s: %d %s, not %d", kind, toldCalls(h), got, impl.CodeWord(code), want)
	}
	if got, _ := wantSerial(kind, h); got != want {
		t.Errorf("kind %d, %s: the second telling has %d, not %d", kind, toldCalls(h), got, want)
	}
}

// Rows that are all as they must be; each call of them, with another Ret, ends what is told there.
func TestSerialByHand(t *testing.T) {
	for _, c := range []struct {
		kind int
		text string
	}{
		{impl.HkRegister, "0:2(0)=0 0:1(5)=0 0:2(9)=5 0:2(0)=5 0:1(-3)=0 0:1(8)=0 0:2(0)=8 0:1(0)=0 0:2(8)=0"},
		{impl.HkCounter, "0:2(0)=0 0:1(5)=0 0:2(9)=5 0:1(-7)=5 0:2(0)=-2 0:1(0)=-2 0:1(1)=-2 0:1(1)=-1 0:2(0)=0"},
		{impl.HkStack, "0:2(0)=-1 0:1(5)=0 0:1(6)=0 0:2(9)=6 0:1(7)=0 0:2(0)=7 0:2(0)=5 0:2(5)=-1 0:2(0)=-1 0:1(2)=0"},
		{impl.HkStack, "0:1(4)=0 0:1(4)=0 0:1(-1)=0 0:2(0)=-1 0:2(0)=4 0:2(0)=4 0:2(0)=-1 0:1(9)=0 0:2(0)=9 0:2(0)=-1"},
		{impl.HkQueue, "0:2(0)=-1 0:1(5)=0 0:1(6)=0 0:2(9)=5 0:1(7)=0 0:2(0)=6 0:2(0)=7 0:2(5)=-1 0:2(0)=-1 0:1(2)=0"},
		{impl.HkQueue, "0:1(4)=0 0:1(4)=0 0:1(-1)=0 0:2(0)=4 0:2(0)=4 0:2(0)=-1 0:2(0)=-1 0:1(9)=0 0:2(0)=9 0:2(0)=-1"},
		{impl.HkLock, "0:2(0)=0 0:2(0)=0 0:1(0)=1 0:1(0)=0 0:1(7)=0 0:2(7)=1 0:2(0)=0 0:1(0)=1 0:2(0)=1 0:1(0)=1"},
		{impl.HkSet, "0:3(4)=0 0:2(4)=0 0:1(4)=1 0:1(4)=0 0:3(4)=1 0:3(5)=0 0:2(5)=0 0:2(4)=1 0:2(4)=0 0:3(4)=0"},
		{impl.HkSet, "0:1(0)=1 0:1(-9)=1 0:1(7)=1 0:2(-9)=1 0:3(0)=1 0:3(7)=1 0:3(-9)=0 0:1(-9)=1 0:2(0)=1 0:3(-9)=1"},
		{impl.HkOnce, "0:1(4)=4 0:1(5)=4 0:1(4)=4 0:1(0)=4"},
		{impl.HkOnce, "0:1(0)=0 0:1(5)=0 0:1(-1)=0"},
	} {
		h := opsOf(t, c.text)
		checkSerial(t, c.kind, h, len(h))
		for at := range h {
			checkSerial(t, c.kind, h[:at], at)
			for _, by := range []int{-1, 1, 2, 1 << 40, math.MinInt} {
				other := slices.Clone(h)
				other[at].Ret += by
				checkSerial(t, c.kind, other, at)
			}
		}
	}
}

// A counter goes round as numbers of 64 bits do.
func TestSerialCounterGoesRound(t *testing.T) {
	for _, c := range []struct{ one, other, sum int }{
		{math.MaxInt, 1, math.MinInt},
		{math.MinInt, -1, math.MaxInt},
		{math.MinInt, math.MinInt, 0},
		{math.MaxInt, math.MaxInt, -2},
		{math.MaxInt, math.MinInt, -1},
	} {
		checkSerial(t, impl.HkCounter, inRow([]impl.Call{{Op: 1, Arg: c.one}, {Op: 1, Arg: c.other, Ret: c.one}, {Op: 2, Ret: c.sum}}), 3)
	}
}

// Each row of up to four operations of each kind, of two arguments: the Ret that each must have, and others.
func TestSerialEachRow(t *testing.T) {
	for _, kind := range historyKinds {
		var ops []impl.Call
		for op := range lastOps[kind] {
			ops = append(ops, impl.Call{Op: op + 1, Arg: 3}, impl.Call{Op: op + 1, Arg: 4})
		}
		rows := [][]impl.Call{nil}
		for at := 0; at < len(rows); at++ {
			row := inRow(rows[at])
			checkSerial(t, kind, row, len(row))
			if len(row) == 4 {
				continue
			}
			for _, c := range ops {
				right := wantRet(kind, row, c)
				for _, ret := range []int{-1, 0, 1, 3, 4, 7, 8} {
					c.Ret = ret
					if ret != right {
						checkSerial(t, kind, inRow(append(slices.Clone(row), c, c)), len(row))
					}
				}
				c.Ret = right
				rows = append(rows, append(slices.Clone(row), c))
			}
		}
	}
}

// An open call has any Ret, and does what others do. Calls stand in the order of the list, whatever their times are.
func TestSerialOpenCalls(t *testing.T) {
	for _, c := range []struct {
		kind int
		text string
		want int
	}{
		{impl.HkRegister, "0:1(5)@0 1:2(0)=5@0-1", 2},
		{impl.HkRegister, "0:1(5)@0 1:2(0)=0@0-1", 1},
		{impl.HkRegister, "1:1(5)=0@0-3 0:2(0)@0", 2},
		{impl.HkCounter, "0:1(5)@0 1:1(2)@0 2:1(3)=7@0-1 3:2(0)@4", 4},
		{impl.HkCounter, "3:1(9)=0@0-4 0:1(5)@0 1:1(2)@0 2:1(3)=7@0-1", 3},
		{impl.HkStack, "0:1(5)=0@0-1 0:2(0)@2 1:2(0)=-1@0-1", 3},
		{impl.HkStack, "0:1(5)=0@0-1 0:2(0)@2 1:2(0)=5@0-1", 2},
		{impl.HkQueue, "0:1(5)@0 1:1(6)@0 2:2(0)@0 3:2(0)=6@0-1", 4},
		{impl.HkQueue, "0:1(5)@0 1:1(6)@0 2:2(0)@0 3:2(0)=5@0-1", 3},
		{impl.HkLock, "0:1(0)@0 1:1(0)=0@0-1 2:2(0)@0 1:1(0)=1@1-2", 4},
		{impl.HkLock, "0:1(0)@0 1:1(0)=1@0-1", 1},
		{impl.HkSet, "0:1(3)@0 1:3(3)=1@0-1 2:2(3)@0 1:3(3)=0@1-2", 4},
		{impl.HkSet, "0:3(3)@0 1:3(3)=1@0-1", 1},
		{impl.HkOnce, "0:1(3)@0 1:1(4)=3@0-1", 2},
		{impl.HkOnce, "1:1(4)=4@0-1 0:1(3)@0 2:1(3)=4@0-1 1:1(4)=3@8-9", 3},
		{impl.HkRegister, "0:1(5)=0@20-30 1:2(0)=5@0-1", 2},
		{impl.HkQueue, "2:1(5)=0@9-9 1:2(0)=5@0-1 0:2(0)=-1@3-4 1:1(6)=0@2-2 3:2(0)=6@1-1", 5},
	} {
		checkSerial(t, c.kind, callsOf(t, c.text), c.want)
	}
}

// Where none parts all are told, also of as many as there may be.
func TestSerialOfTen(t *testing.T) {
	for _, c := range []struct {
		kind int
		call impl.Call
		want int
	}{
		{impl.HkRegister, impl.Call{Op: 1, Arg: 7}, 10},
		{impl.HkRegister, impl.Call{Op: 1, Arg: 7, Ret: 7}, 0},
		{impl.HkCounter, impl.Call{Op: 1, Arg: 7}, 1},
		{impl.HkCounter, impl.Call{Op: 1}, 10},
		{impl.HkStack, impl.Call{Op: 1, Arg: 7}, 10},
		{impl.HkStack, impl.Call{Op: 2, Ret: -1}, 10},
		{impl.HkStack, impl.Call{Op: 2}, 0},
		{impl.HkQueue, impl.Call{Op: 1, Arg: 7}, 10},
		{impl.HkQueue, impl.Call{Op: 2, Ret: -1}, 10},
		{impl.HkLock, impl.Call{Op: 1, Ret: 1}, 1},
		{impl.HkLock, impl.Call{Op: 2}, 10},
		{impl.HkSet, impl.Call{Op: 1, Ret: 1}, 1},
		{impl.HkSet, impl.Call{Op: 3}, 10},
		{impl.HkOnce, impl.Call{Op: 1, Arg: 7, Ret: 7}, 10},
	} {
		checkSerial(t, c.kind, inRow(repeated(10, c.call)), c.want)
	}
	distinct := inRow(make([]impl.Call, 10))
	for i := range distinct {
		distinct[i].Op, distinct[i].Arg = 1, i
	}
	checkSerial(t, impl.HkStack, distinct, 10)
	checkSerial(t, impl.HkQueue, distinct, 10)
	for i := range distinct {
		distinct[i].Ret = 1
	}
	checkSerial(t, impl.HkSet, distinct, 10)
}

// The histories of any make: the rows are not asked here.
func TestSerialOfAnyMake(t *testing.T) {
	s := newSource()
	counts := map[int]int{}
	for range 20000 {
		g := anyHistory(s, 10)
		if s.IntN(3) > 0 {
			g.calls = inRow(g.calls)
		}
		got, code := impl.Serial(g.kind, g.calls)
		want, wantCode := wantSerial(g.kind, g.calls)
		if got != want || code != wantCode || impl.HistoryOK(g.calls) != wantHistoryOK(g.calls) {
			t.Fatalf("%s: %d %s, not %d %s", g.show(), got, impl.CodeWord(code), want, impl.CodeWord(wantCode))
		}
		counts[got]++
	}
	for count := range 11 {
		if counts[count] < 50 {
			t.Errorf("%d have %d", counts[count], count)
		}
	}
}
