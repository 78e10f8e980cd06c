package tests

import (
	"math"
	"reflect"
	"slices"
	"strings"
	"testing"

	"loop.example/g00045/impl"
)

// checkNormal: the rows are as told, with bars between them.
func checkNormal(t *testing.T, prog, turns, want string) {
	t.Helper()
	p, list := cellsOf(t, prog), turnsOf(t, turns)
	rows, code := impl.Normal(p, list)
	var told [][]impl.Turn
	for _, row := range strings.Split(want, "|") {
		told = append(told, turnsOf(t, row))
	}
	if want == "" {
		told = nil
	}
	if code != impl.OK || toldRuns(rows) != toldRuns(told) || len(rows) != len(told) {
		t.Errorf("%s\n%s\n%s, %s, not %s", prog, turns, toldRuns(rows), impl.CodeWord(code), toldRuns(told))
	}
	if rows := wantRows(p, list); toldRuns(rows) != toldRuns(told) {
		t.Fatalf("%s\n%s\nthe second telling has %s", prog, turns, toldRuns(rows))
	}
}

// checkNormalCode: Normal, and Alike with these turns on either side, have that code and nothing else.
func checkNormalCode(t *testing.T, what string, p impl.Prog, turns []impl.Turn, want int) {
	t.Helper()
	if rows, code := impl.Normal(p, turns); code != want || len(rows) > 0 {
		t.Errorf("%s: Normal %s, %s, not %s", what, toldRuns(rows), impl.CodeWord(code), impl.CodeWord(want))
	}
	for _, pair := range [][2][]impl.Turn{{turns, nil}, {nil, turns}, {turns, turns}} {
		if isAlike, code := impl.Alike(p, pair[0], pair[1]); code != want || isAlike {
			t.Errorf("%s: Alike %t, %s, not %s", what, isAlike, impl.CodeWord(code), impl.CodeWord(want))
		}
	}
}

func TestNormalCodes(t *testing.T) {
	p := cellsOf(t, "cells 0; thread; fence; thread; load r1 c0 relaxed")
	loop := cellsOf(t, loopingLoad)
	many := repeated(millions, impl.Turn{})
	for _, count := range []int{4097, 4098, 5000, millions} {
		checkNormalCode(t, "long", loop, many[:count], impl.ErrLong)
		for _, wrong := range wrongProgs() {
			checkNormalCode(t, "long, and a wrong program", wrong, many[:count], impl.ErrLong)
		}
	}
	for _, wrong := range wrongProgs() {
		for _, count := range []int{0, 1, 2, 200, 201, 4096} {
			checkNormalCode(t, "a wrong program", wrong, many[:count], impl.ErrBad)
		}
		checkNormalCode(t, "a wrong program, and a wrong turn", wrong, []impl.Turn{{Thread: 7}}, impl.ErrBad)
	}
	for _, count := range []int{201, 202, 1000, 4095, 4096} {
		checkNormalCode(t, "many", loop, many[:count], impl.ErrMany)
		checkNormalCode(t, "many, and turns that cannot be", p, many[:count], impl.ErrMany)
	}
	for _, turn := range []impl.Turn{{Thread: -1}, {Thread: 2}, {Thread: 3}, {Thread: 4}, {Thread: 0, Choice: 1}, {Thread: 0, Choice: -1}, {Thread: 1, Choice: 1}, {Thread: math.MaxInt}, {Thread: math.MinInt}, {Choice: math.MinInt}, {Choice: math.MaxInt}, {Thread: 1 << 32}} {
		checkNormalCode(t, "a turn that cannot be", p, []impl.Turn{turn}, impl.ErrState)
		checkNormalCode(t, "a turn that cannot be", p, []impl.Turn{{}, turn}, impl.ErrState)
		checkNormalCode(t, "a turn that cannot be", p, []impl.Turn{{}, {Thread: 1}, turn}, impl.ErrState)
		checkNormalCode(t, "a turn that cannot be", p, []impl.Turn{turn, {}}, impl.ErrState)
	}
	checkNormalCode(t, "behind its end", p, []impl.Turn{{}, {}}, impl.ErrState)
	checkNormalCode(t, "the last one of 200", p, many[:200], impl.ErrState)
}

// Just MaxTurns turns are not too many.
func TestNormalOfManyTurns(t *testing.T) {
	loops := "cells 0; thread; load r1 c0 relaxed; jump 0 == 0 0; thread; load r1 c0 relaxed; jump 0 == 0 0"
	checkNormal(t, loops, "0*200", "0"+strings.Repeat("|0", 199))
	checkNormal(t, loops, "1*100 0*100", "0 1"+strings.Repeat("|0 1", 99))
	checkNormal(t, loops, "1*40 0*160", "0 1"+strings.Repeat("|0 1", 39)+strings.Repeat("|0", 120))
}

func TestNormalNoTurns(t *testing.T) {
	for _, prog := range []string{"cells 0; thread", "cells 0; thread; fence; thread; fence", "cells 0; thread; jump 0 == 0 0", "cells 0; thread; await r1 c0 == 1 seq"} {
		checkNormal(t, prog, "", "")
		p := cellsOf(t, prog)
		if isAlike, code := impl.Alike(p, nil, []impl.Turn{}); !isAlike || code != impl.OK {
			t.Errorf("%s: %t, %s", prog, isAlike, impl.CodeWord(code))
		}
	}
}

const (
	fourLoads = "cells 0; thread; load r1 c0 relaxed; thread; load r1 c0 acquire; thread; await r1 c0 == 0 relaxed; thread; load r1 c0 seq"
	storeRows = "cells 0 0; thread; store c0 1 relaxed; load r1 c1 relaxed; thread; store c1 2 relaxed; store c1 3 relaxed"
)

func TestNormalByHand(t *testing.T) {
	// Rows are in order by Thread, however the turns came.
	for _, turns := range []string{"0 1 2 3", "3 2 1 0", "3 1 2 0", "2 0 3 1"} {
		checkNormal(t, fourLoads, turns, "0 1 2 3")
	}
	checkNormal(t, fourLoads, "2", "2")
	checkNormal(t, fourLoads, "3 1", "1 3")
	// Two turns of one thread, whose steps are apart.
	checkNormal(t, "cells 0 0; thread; load r1 c0 relaxed; load r1 c0 relaxed; store c1 1 relaxed; fence", "0*4", "0|0|0|0")
	checkNormal(t, "cells 0; thread; load r1 c0 relaxed; load r2 c0 relaxed; thread; load r1 c0 relaxed; load r2 c0 relaxed", "1 1 0 0", "0 1|0 1")
	// Each in the first row that it can stand in.
	checkNormal(t, storeRows, "1 0 1 0", "0 1|1|0")
	checkNormal(t, storeRows, "0 1 1 0", "0 1|1|0")
	checkNormal(t, storeRows, "1 1 0 0", "0 1|1|0")
	checkNormal(t, storeRows, "0 0 1 1", "0|0|1|1")
	checkNormal(t, storeRows, "0 1 0 1", "0 1|0|1")
	checkNormal(t, storeRows, "1 0 0 1", "0 1|0|1")
	// Choices are told.
	checkNormal(t, storeRows, "1 0 1 0:2", "0 1|1|0:2")
	checkNormal(t, storeRows, "1 1 0 0:1", "0 1|1|0:1")
	// Not apart from one far ahead, with much between them that is.
	far := "cells 0 0 0; thread; store c0 1 relaxed; thread; load r1 c1 relaxed; load r1 c1 relaxed; load r1 c1 relaxed; thread; store c0 2 relaxed; thread; load r1 c2 relaxed; load r1 c2 relaxed"
	checkNormal(t, far, "0 1 1 1 2", "0 1|1 2|1")
	checkNormal(t, far, "1 1 0 1 2", "0 1|1 2|1")
	checkNormal(t, far, "1 1 1 2 3 3 0", "1 2 3|0 1 3|1")
	checkNormal(t, far, "2 1 1 1 3 3", "1 2 3|1 3|1")
	checkNormal(t, far, "0 3 3 1 1 1 2", "0 1 3|1 2 3|1")
	// Behind the last one of those ahead, not behind the first.
	row := "cells 0 0; thread; store c0 1 relaxed; thread; load r1 c0 relaxed; store c1 1 relaxed; thread; load r1 c1 relaxed; store c0 2 relaxed"
	checkNormal(t, row, "0 1 1 2 2", "0|1|1|2|2")
	checkNormal(t, row, "2 2 1 1 0", "2|2|1|0 1")
	checkNormal(t, row, "2 1 0 2 1", "1 2|0 1|2")
	checkNormal(t, row, "1 0 2 1 2", "1 2|0 1|2")
}

func TestNormalOfSteps(t *testing.T) {
	// Both seq, on other cells: one behind the other; one of them seq: in one row.
	checkNormal(t, "cells 0 0; thread; store c0 1 seq; thread; load r1 c1 seq", "1 0", "1|0")
	checkNormal(t, "cells 0 0; thread; store c0 1 seq; thread; load r1 c1 acquire", "1 0", "0 1")
	checkNormal(t, "cells 0 0; thread; store c0 1 release; thread; load r1 c1 seq", "1 0", "0 1")
	checkNormal(t, "cells 0; thread; load r1 c0 seq; thread; load r1 c0 seq", "1 0", "1|0")
	checkNormal(t, "cells 0; thread; fence; thread; fence; thread; fence", "2 0 1", "2|0|1")
	checkNormal(t, "cells 0; thread; fence; thread; add r1 c0 1 seq; thread; swap r1 c0 1 both", "1 0 2", "1|0 2")
	checkNormal(t, "cells 0; thread; fence; thread; add r1 c0 1 seq; thread; swap r1 c0 1 both", "2 0 1", "0 2|1")
	checkNormal(t, "cells 0; thread; fence; thread; add r1 c0 1 seq; thread; swap r1 c0 1 both", "1 2 0", "1|0 2")
	// A cas that does not write is a cas all the same.
	checkNormal(t, "cells 0; thread; cas r1 c0 7 1 relaxed; thread; load r1 c0 relaxed; thread; cas r1 c0 7 1 relaxed", "1 0 2", "1|0|2")
	checkNormal(t, "cells 0; thread; cas r1 c0 7 1 relaxed; thread; load r1 c0 relaxed; thread; cas r1 c0 7 1 relaxed", "2 1 0", "2|1|0")
	// One instruction is the step of several turns, and what a turn does is the instruction at which its thread stood.
	checkNormal(t, "cells 0 0; thread; store c0 1 relaxed; store c1 1 relaxed; jump 0 == 0 0; thread; load r1 c1 relaxed; load r1 c0 relaxed; jump 0 == 0 0", "0 1 0 1 0 1", "0 1|0 1|0 1")
	checkNormal(t, "cells 0 0; thread; store c0 1 relaxed; store c1 1 relaxed; jump 0 == 0 0; thread; load r1 c1 relaxed; load r1 c0 relaxed; jump 0 == 0 0", "1 1 0 0 1 0", "1|1|0|0|0 1")
	// Quiet instructions, ahead of a step and behind it, are none.
	checkNormal(t, "cells 0; thread; set r1 1; call 1 2; load r2 c0 relaxed; ret r2; assert r2 == 1; thread; sum r1 2; load r1 c0 relaxed; jump 0 == 0 2", "1 0", "0 1")
}

// checkAlikeRows: whether two rows of turns are alike, either way round.
func checkAlikeRows(t *testing.T, prog, a, b string, want bool) {
	t.Helper()
	p, one, other := cellsOf(t, prog), turnsOf(t, a), turnsOf(t, b)
	for range 2 {
		if isAlike, code := impl.Alike(p, one, other); isAlike != want || code != impl.OK {
			t.Errorf("%s\n%s and %s: %t, %s", prog, a, b, isAlike, impl.CodeWord(code))
		}
		if isAlike, code := wantAlike(p, one, other); isAlike != want || code != impl.OK {
			t.Fatalf("%s\n%s and %s: the second telling has %t, %s", prog, a, b, isAlike, impl.CodeWord(code))
		}
		one, other = other, one
	}
}

func TestAlikeByHand(t *testing.T) {
	checkAlikeRows(t, fourLoads, "0 1 2 3", "3 2 1 0", true)
	checkAlikeRows(t, fourLoads, "2 0", "0 2", true)
	checkAlikeRows(t, fourLoads, "2 0", "0 1", false)
	checkAlikeRows(t, storeRows, "1 0 1 0", "0 1 1 0", true)
	checkAlikeRows(t, storeRows, "1 0 1 0", "0 1 0 1", false)
	checkAlikeRows(t, storeRows, "1 0 0 1", "0 1 0 1", true)
	checkAlikeRows(t, storeRows, "0 0 1 1", "0 1 0 1", false)
	// Of other choices, though they read the same.
	checkAlikeRows(t, storeRows, "1 1 0 0:1", "1 0 1 0:1", true)
	checkAlikeRows(t, storeRows, "1 1 0 0:1", "1 0 1 0", false)
	checkAlikeRows(t, "cells 5; thread; store c0 5 relaxed; thread; load r1 c0 relaxed", "0 1", "0 1:1", false)
	// Of other lengths, the one the other's beginning or not.
	checkAlikeRows(t, storeRows, "1 0 1", "1 0 1 0", false)
	checkAlikeRows(t, storeRows, "1", "1 1", false)
	checkAlikeRows(t, storeRows, "", "1", false)
	checkAlikeRows(t, storeRows, "1 0", "0", false)
	checkAlikeRows(t, storeRows, "", "", true)
	checkAlikeRows(t, storeRows, "0", "0", true)
	// They come to the same state, and are not alike.
	checkAlikeRows(t, "cells 0; thread; store c0 1 relaxed; fence; thread; fence", "0 0 1", "0 1 0", false)
	checkAlikeRows(t, "cells 0; thread; cas r1 c0 7 1 relaxed; thread; cas r1 c0 7 1 relaxed", "0 1", "1 0", false)
	// The same turns as flat rows, in other rows.
	checkAlikeRows(t, "cells 0; thread; store c0 1 relaxed; thread; store c0 2 relaxed; thread; load r1 c0 relaxed", "0 1 2:2", "0 2:1 1", false)
	checkAlikeRows(t, "cells 0 0; thread; store c0 1 relaxed; thread; load r1 c1 relaxed; thread; store c1 1 relaxed", "0 2 1:1", "2 0 1:1", true)
	checkAlikeRows(t, "cells 0 0; thread; store c0 1 relaxed; thread; load r1 c1 relaxed; thread; store c1 1 relaxed", "2 1 0", "2 0 1", true)
	checkAlikeRows(t, "cells 0 0; thread; store c0 1 relaxed; thread; load r1 c1 relaxed; thread; store c1 1 relaxed", "1 2 0", "2 1 0", false)
}

// Of two codes that of a is told, but for ErrLong, which comes ahead of all.
func TestAlikeTwoCodes(t *testing.T) {
	p := cellsOf(t, loopingLoad)
	many := repeated(5000, impl.Turn{})
	rows := map[int][]impl.Turn{impl.OK: many[:3], impl.ErrLong: many[:4097], impl.ErrMany: many[:201], impl.ErrState: {{Thread: 9}}}
	for one, a := range rows {
		for other, b := range rows {
			want := one
			if one == impl.OK || other == impl.ErrLong {
				want = other
			}
			if isAlike, code := impl.Alike(p, a, b); code != want || isAlike != (want == impl.OK) {
				t.Errorf("%s and %s: %t, %s", impl.CodeWord(one), impl.CodeWord(other), isAlike, impl.CodeWord(code))
			}
			for _, wrong := range wrongProgs() {
				want := impl.ErrBad
				if one == impl.ErrLong || other == impl.ErrLong {
					want = impl.ErrLong
				}
				if isAlike, code := impl.Alike(wrong, a, b); code != want || isAlike {
					t.Errorf("a wrong program, %s and %s: %t, %s", impl.CodeWord(one), impl.CodeWord(other), isAlike, impl.CodeWord(code))
				}
			}
		}
	}
}

// turnedTurns: a row of turns with one thing turned; few of those that are no exchange can be.
func turnedTurns(s source, turns []impl.Turn) []impl.Turn {
	if len(turns) < 2 {
		return turnedList(s, turns, []impl.Turn{{}, {Thread: 1}, {Thread: 1, Choice: 1}})
	}
	turns = slices.Clone(turns)
	at := s.IntN(len(turns) - 1)
	switch s.IntN(20) {
	case 0:
		return turnedList(s, turns, []impl.Turn{{}, {Thread: 1}, {Thread: 2}, wildTurn(s)})
	case 1, 2:
		turns[at].Choice = s.IntN(3)
	case 3:
		return turns[:at]
	default:
		for range 5 {
			if turns[at].Thread != turns[at+1].Thread {
				break
			}
			at = s.IntN(len(turns) - 1)
		}
		turns[at], turns[at+1] = turns[at+1], turns[at]
	}
	return turns
}

// Rows of turns of any make: each answer is the second telling's.
func TestNormalOfAnyMake(t *testing.T) {
	s := newSource()
	counts := map[string]int{}
	for i := range 4000 {
		p := anyCells(s, i%4 > 0, i%9 == 0)
		a, _ := anyTurns(s, p, 4+s.IntN(30))
		b := slices.Clone(a)
		for range s.IntN(4) {
			b = turnedTurns(s, b)
		}
		if i%15 == 0 {
			p = turnCells(s, p)
		}
		for _, turns := range [][]impl.Turn{a, b} {
			rows, code := impl.Normal(p, turns)
			want, wantCode := wantNormal(p, turns)
			if code != wantCode || !reflect.DeepEqual(tidyRuns(rows), tidyRuns(want)) {
				t.Fatalf("%s%s\n%s, %s, not %s, %s", showCells(p), toldTurns(turns), toldRuns(rows), impl.CodeWord(code), toldRuns(want), impl.CodeWord(wantCode))
			}
		}
		isAlike, code := impl.Alike(p, a, b)
		want, wantCode := wantAlike(p, a, b)
		if isAlike != want || code != wantCode {
			t.Fatalf("%s%s and %s: %t, %s, not %t, %s", showCells(p), toldTurns(a), toldTurns(b), isAlike, impl.CodeWord(code), want, impl.CodeWord(wantCode))
		}
		switch {
		case code != impl.OK:
			counts[impl.CodeWord(code)]++
		case isAlike && !slices.Equal(a, b):
			counts["alike"]++
		case !isAlike && len(a) == len(b):
			counts["not alike"]++
		}
	}
	if min(counts["alike"], counts["not alike"], counts["state"]) < 200 || counts["bad"] < 50 {
		t.Errorf("%v", counts)
	}
}
