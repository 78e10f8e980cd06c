package tests

import (
	"fmt"
	"math"
	"slices"
	"strings"
	"testing"

	"loop.example/g00045/impl"
)

var wrongWhats = slices.DeleteFunc(slices.Concat([]int{0, 4, 5, -1, -2, -3, 255, 257, 1 << 32, 1<<32 + 1, math.MinInt, math.MaxInt}, anyNumbers), func(n int) bool { return 1 <= n && n <= 3 })

// ErrKind comes behind Explore's codes, and ahead of ErrNone.
func TestFindKinds(t *testing.T) {
	for _, what := range wrongWhats {
		for _, prog := range []string{"cells 0; thread", "cells 0; thread; assert 0 == 1", "cells 0; thread; await r1 c0 == 1 seq; thread; jump 0 == 0 0", "cells 0; thread; fence; jump 0 == 0 0"} {
			if turns, code := impl.Find(cellsOf(t, prog), 10, what); code != impl.ErrKind || len(turns) > 0 {
				t.Errorf("%s: kind %d: %s", prog, what, toldFound(turns, code))
			}
		}
		if turns, code := impl.Find(cellsOf(t, "cells 0"+countTo(10)), 10, what); code != impl.ErrFuel || len(turns) > 0 {
			t.Errorf("too many states, kind %d: %s", what, toldFound(turns, code))
		}
		for _, p := range wrongProgs() {
			if turns, code := impl.Find(p, 10, what); code != impl.ErrBad || len(turns) > 0 {
				t.Errorf("a wrong program, kind %d: %s", what, toldFound(turns, code))
			}
		}
		if turns, code := impl.Find(cellsOf(t, "cells 0; thread"), 0, what); code != impl.ErrBad || len(turns) > 0 {
			t.Errorf("most of 0, kind %d: %s", what, toldFound(turns, code))
		}
	}
}

// What is found at the beginning, and too many states behind it: no turns are told.
func TestFindBehindTooManyStates(t *testing.T) {
	for i, prog := range []string{"cells 0; thread; assert 0 == 1", "cells 0; thread; fence; assert 0 == 1", "cells 0; thread; jump 0 == 0 0"} {
		p := cellsOf(t, prog+"; thread; fence; fence")
		states := []int{3, 6, 3}[i]
		what := []int{impl.FdBad, impl.FdBad, impl.FdHung}[i]
		for most := 1; most < states+3; most++ {
			turns, code := impl.Find(p, most, what)
			if isWhole := most >= states; isWhole != (code == impl.OK) || !isWhole && (code != impl.ErrFuel || len(turns) > 0) {
				t.Errorf("%s, most %d: %s", prog, most, toldFound(turns, code))
			}
		}
	}
}

func TestFindTheLeastRow(t *testing.T) {
	// The fewest turns, even where a longer row would be less.
	checkMap(t, "cells 0; thread; fence; fence; assert 0 == 1; thread; fence; assert 0 == 1", "findbad 1:0")
	checkMap(t, "cells 0; thread; fence; fence; jump 0 == 0 2; thread; fence; jump 0 == 0 1", "findhung 1:0")
	// By Thread.
	checkMap(t, "cells 0; thread; fence; thread; fence; assert 0 == 1; thread; fence; assert 0 == 1", "findbad 1:0")
	checkMap(t, "cells 0; thread; store c0 1 relaxed; thread; store c0 1 relaxed; thread; await r1 c0 == 1 relaxed; assert 0 == 1", "findbad 0:0 2:0")
	checkMap(t, "cells 0; thread; await r1 c0 == 1 relaxed; assert 0 == 1; thread; store c0 2 relaxed; thread; store c0 1 relaxed; thread; store c0 1 relaxed", "findbad 2:0 0:0")
	// Turn by turn: what stands first counts, not what stands last.
	checkMap(t, "cells 0 0; thread; await r1 c0 == 1 relaxed; store c1 1 relaxed; thread; store c0 1 relaxed; await r1 c1 == 1 relaxed; assert 0 == 1; thread; await r1 c0 == 1 relaxed; store c1 1 relaxed", "findbad 1:0 0:0 0:0 1:0")
	// By Choice.
	stores := "cells 0 0; thread; store c0 1 relaxed; store c0 2 relaxed; store c0 3 relaxed; store c1 1 relaxed; thread; await r1 c1 == 1 relaxed; load r1 c0 relaxed; "
	for bad, choice := range map[string]string{"r1 != 3": "0", "r1 != 2": "1", "r1 != 1": "2", "r1 != 0": "3", "r1 < 3": "0", "r1 < 2": "0", "r1 <= 0": "0", "0 < r1": "3", "1 < r1": "2"} {
		checkMap(t, stores+"assert "+bad, "findbad 0:0 0:0 0:0 0:0 1:0 1:"+choice)
	}
	// Of an await only the messages that it can read are counted.
	awaits := strings.Replace(stores, "load r1 c0 relaxed", "await r1 c0 != 2 relaxed", 1)
	for bad, choice := range map[string]string{"r1 != 3": "0", "r1 != 1": "1", "r1 != 0": "2", "r1 < 3": "0", "0 < r1": "2"} {
		checkMap(t, awaits+"assert "+bad, "findbad 0:0 0:0 0:0 0:0 1:0 1:"+choice)
	}
	checkMap(t, awaits+"assert r1 != 2", "findbad none")
	// A state that stays bad is found where it becomes so.
	checkMap(t, "cells 0; thread; fence; assert 0 == 1; fence; fence", "findbad 0:0; bad 3")
	// A long row.
	checkMap(t, "cells 0"+countTo(2999)+"; assert r1 != 2999", "findbad "+strings.TrimSuffix(strings.Repeat("0:0 ", 300), " "))
	turns, code := impl.Find(cellsOf(t, "cells 0"+countTo(2999)+"; assert r1 != 2999"), 3000, impl.FdBad)
	if code != impl.OK || !slices.Equal(turns, repeated(2999, impl.Turn{})) {
		t.Errorf("%d turns, %s", len(turns), impl.CodeWord(code))
	}
}

// Only an end is stuck: that a thread waits is not enough.
func TestFindStuck(t *testing.T) {
	checkMap(t, "cells 0; thread; await r1 c0 == 1 relaxed; thread; fence; fence; thread; fence", "findstuck 1:0 1:0 2:0; stuck 1")
	checkMap(t, "cells 0; thread; await r1 c0 == 1 relaxed; thread; fence; jump 0 == 0 0", "findstuck none; stuck 0")
	checkMap(t, "cells 0; thread; jump 0 == 0 0; thread; fence", "findstuck none; stuck 0")
	checkMap(t, "cells 0; thread; jump 0 == 0 0; thread; await r1 c0 == 1 relaxed; thread; fence", "findstuck 2:0; stuck 1; findhung ")
	// A lock that is not given back.
	lock := "; thread; cas r1 c0 0 1 acquire; jump r1 == 1 4; await r2 c0 == 0 relaxed; jump 0 == 0 0; fence"
	checkMap(t, "cells 0"+lock+"; store c0 0 release"+lock+"; store c0 0 release", "stuck 0; findstuck none; findbad none")
	checkMap(t, "cells 0"+lock+lock+"; store c0 0 release", "findstuck 0:0 0:0 1:0")
	// Two locks, taken in turn and against it.
	checkMap(t, "cells 0 0; thread; await r1 c0 == 0 seq; swap r1 c0 1 seq; await r1 c1 == 0 seq; swap r1 c1 1 seq; store c0 0 seq; store c1 0 seq; thread; await r1 c1 == 0 seq; swap r1 c1 1 seq; await r1 c0 == 0 seq; swap r1 c0 1 seq; store c0 0 seq; store c1 0 seq", "findstuck 0:0 0:0 1:0 1:0")
}

// checkFindEnd: the turns are those of the second telling for this end; they are told if it is one.
func checkFindEnd(t *testing.T, p impl.Prog, w oneWorld, e impl.End) int {
	t.Helper()
	want, wantCode := w.findEnd(e)
	turns, code := impl.FindEnd(p, 3000, e)
	if code != wantCode || !slices.Equal(turns, want) {
		t.Fatalf("%s%s: %s, not %s", showCells(p), toldEnd(e), toldFound(turns, code), toldFound(want, wantCode))
	}
	return code
}

// otherEnds: an end with one thing turned.
func otherEnds(e impl.End) []impl.End {
	out := []impl.End{{Bad: !e.Bad, Stuck: e.Stuck, Regs: e.Regs, Cells: e.Cells}}
	for _, stuck := range otherLists(e.Stuck) {
		out = append(out, impl.End{Bad: e.Bad, Stuck: stuck, Regs: e.Regs, Cells: e.Cells})
	}
	for _, cells := range otherLists(e.Cells) {
		out = append(out, impl.End{Bad: e.Bad, Stuck: e.Stuck, Regs: e.Regs, Cells: cells})
	}
	regs := [][][]int{nil, {}, e.Regs[:len(e.Regs)-1], e.Regs[1:], append(slices.Clip(e.Regs), make([]int, 6)), append(slices.Clip(e.Regs), nil), append([][]int{make([]int, 6)}, e.Regs...)}
	for thread, row := range e.Regs {
		for _, other := range otherLists(row) {
			rows := slices.Clone(e.Regs)
			rows[thread] = other
			regs = append(regs, rows)
		}
	}
	for _, rows := range regs {
		out = append(out, impl.End{Bad: e.Bad, Stuck: e.Stuck, Regs: rows, Cells: e.Cells})
	}
	return out
}

// otherLists: longer and shorter ones, and some with one number turned.
func otherLists(list []int) [][]int {
	out := [][]int{append(slices.Clip(list), 0), append(slices.Clip(list), 1), append([]int{0}, list...)}
	if len(list) > 0 {
		out = append(out, nil, list[1:], list[:len(list)-1])
	}
	for i, n := range list {
		for _, other := range []int{n + 1, n - 1, -n - 1, n + 1<<32, math.MaxInt, math.MinInt} {
			turned := slices.Clone(list)
			turned[i] = other
			out = append(out, turned)
		}
	}
	return out
}

func TestFindEndThatDiffersInOneThing(t *testing.T) {
	found, none := 0, 0
	for _, prog := range []string{
		"cells 0; thread",
		"cells 3; thread; assert 0 == 1",
		"cells 5; thread; store c0 5 relaxed; thread; load r1 c0 relaxed",
		"cells 0; thread; store c0 1 relaxed; thread; load r1 c0 relaxed; assert r1 == 1",
		// Ends that differ in one thing alone: Bad, Stuck, Regs, Cells.
		"cells 0; thread; store c0 1 relaxed; thread; load r1 c0 relaxed; assert r1 == 1; set r1 0",
		"cells 0; thread; await r1 c0 == 1 seq; set r1 0; thread; store c0 1 seq; store c0 2 seq",
		"cells 5; thread; store c0 6 relaxed; thread; load r1 c0 relaxed",
		"cells 0; thread; store c0 1 relaxed; thread; store c0 2 relaxed",
		"cells 0; thread; add r1 c0 1 relaxed; add r6 c0 1 relaxed; thread; add r1 c0 1 relaxed",
		"cells 0 0; thread; store c0 1 relaxed; thread; load r1 c0 relaxed; assert r1 == 0; store c1 r1 relaxed; thread; await r1 c1 == 1 relaxed; thread; await r1 c1 == 2 relaxed",
	} {
		p := cellsOf(t, prog)
		w := worldOf(p, 3000, sightNames)
		for _, e := range w.report().Ends {
			if checkFindEnd(t, p, w, e) != impl.OK {
				t.Errorf("%s: %s: none", prog, toldEnd(e))
			}
			for _, other := range otherEnds(e) {
				if checkFindEnd(t, p, w, other) == impl.OK {
					found++
				} else {
					none++
				}
			}
		}
	}
	if found < 8 || none < 500 {
		t.Errorf("%d found, %d not", found, none)
	}
}

// Several states tell one end: the least of all their rows.
func TestFindEndOfSeveralStates(t *testing.T) {
	for _, c := range []struct{ prog, want string }{
		{"cells 5; thread; store c0 5 relaxed; thread; load r1 c0 relaxed", "0:0 1:0"},
		{"cells 5; thread; load r1 c0 relaxed; thread; store c0 5 relaxed", "0:0 1:0"},
		{"cells 0; thread; store c0 1 relaxed; thread; load r1 c0 relaxed; jump r1 == 1 3; fence; set r1 0", "0:0 1:0"},
		{"cells 0; thread; store c0 1 relaxed; thread; load r1 c0 relaxed; jump r1 == 0 3; fence; set r1 0", "0:0 1:1"},
		{"cells 0; thread; store c0 1 relaxed; store c0 0 relaxed; store c0 0 relaxed; thread; load r1 c0 relaxed; jump r1 == 1 3; fence; set r1 0", "0:0 0:0 0:0 1:2"},
		{"cells 0; thread; load r1 c0 relaxed; jump r1 == 1 3; fence; set r1 0; thread; store c0 1 relaxed", "1:0 0:0"},
	} {
		p := cellsOf(t, c.prog)
		r, _ := impl.Explore(p, 100)
		w := worldOf(p, 100, sightNames)
		ends := 0
		for _, s := range w {
			if s.memory.isEnd() {
				ends++
			}
		}
		if len(r.Ends) != 1 || ends < 2 {
			t.Fatalf("%s: %d states are ends, %s", c.prog, ends, toldEnds(r.Ends))
		}
		if turns, code := impl.FindEnd(p, 100, r.Ends[0]); toldFound(turns, code) != c.want {
			t.Errorf("%s: %s, not %s", c.prog, toldFound(turns, code), c.want)
		}
		checkFindEnd(t, p, w, r.Ends[0])
	}
}

// Empty lists and nil are the same, in the end that is handed in too.
func TestFindEndOfEmptyLists(t *testing.T) {
	p := cellsOf(t, "cells 0; thread; await r1 c0 == 1 relaxed; thread; store c0 1 relaxed")
	zeros := make([]int, 6)
	one := []int{1, 0, 0, 0, 0, 0}
	for _, stuck := range [][]int{nil, {}} {
		if turns, code := impl.FindEnd(p, 10, impl.End{Stuck: stuck, Regs: [][]int{one, zeros}, Cells: []int{1}}); toldFound(turns, code) != "1:0 0:0" {
			t.Error(toldFound(turns, code))
		}
	}
	for _, e := range []impl.End{{}, {Stuck: []int{}, Regs: [][]int{}, Cells: []int{}}, {Regs: [][]int{nil, nil}}, {Regs: [][]int{{}, {}}, Cells: []int{1}}, {Regs: [][]int{one, zeros}}, {Regs: [][]int{one, zeros}, Cells: []int{}}} {
		if turns, code := impl.FindEnd(p, 10, e); code != impl.ErrNone || len(turns) > 0 {
			t.Error(toldEnd(e), toldFound(turns, code))
		}
	}
	// A state that is no end tells none, whatever it has.
	begun := impl.End{Stuck: []int{0, 1}, Regs: [][]int{zeros, zeros}, Cells: []int{0}}
	for _, stuck := range [][]int{nil, {0}, {1}, {0, 1}} {
		begun.Stuck = stuck
		if turns, code := impl.FindEnd(p, 10, begun); code != impl.ErrNone || len(turns) > 0 {
			t.Error(toldEnd(begun), toldFound(turns, code))
		}
	}
}

// Lists of an end are bounded by nothing: such a one is none of the ends.
func TestFindEndOfFarTooLongLists(t *testing.T) {
	p := cellsOf(t, "cells 0; thread; fence")
	r, _ := impl.Explore(p, 10)
	many := make([]int, millions)
	for i, e := range []impl.End{
		{Stuck: many, Regs: r.Ends[0].Regs, Cells: r.Ends[0].Cells},
		{Regs: r.Ends[0].Regs, Cells: many},
		{Regs: [][]int{many}, Cells: r.Ends[0].Cells},
		{Regs: repeated(millions, many), Cells: r.Ends[0].Cells},
		{Regs: make([][]int, 4097), Cells: make([]int, 4097), Stuck: make([]int, 4097)},
	} {
		if turns, code := impl.FindEnd(p, 10, e); code != impl.ErrNone || len(turns) > 0 {
			t.Errorf("number %d: %s", i, toldFound(turns, code))
		}
		if turns, code := impl.FindEnd(p, 1, e); code != impl.ErrFuel || len(turns) > 0 {
			t.Errorf("number %d: %s", i, toldFound(turns, code))
		}
		if turns, code := impl.FindEnd(impl.Prog{}, 10, e); code != impl.ErrBad || len(turns) > 0 {
			t.Errorf("number %d: %s", i, toldFound(turns, code))
		}
	}
}

// A loop is no hindrance to what is found.
func TestFindInLoops(t *testing.T) {
	checkMap(t, "cells 0; thread; load r1 c0 acquire; jump r1 == 0 0; assert r1 == 2; thread; store c0 1 release; fence; jump 0 == 0 1", "runs loop; findbad 1:0 0:0; findstuck none; ends ")
	checkMap(t, "cells 0; thread; load r1 c0 acquire; jump r1 == 0 0; thread; store c0 1 release", "runs loop; ends fine, stuck , regs 1/, cells 1")
	p := cellsOf(t, "cells 0; thread; load r1 c0 acquire; jump r1 == 0 0; thread; store c0 1 release")
	r, _ := impl.Explore(p, 100)
	if turns, code := impl.FindEnd(p, 100, r.Ends[0]); toldFound(turns, code) != "1:0 0:0" {
		t.Error(toldFound(turns, code))
	}
	if got := fmt.Sprint(r.States, r.Moves); got != "3 4" {
		t.Error(got)
	}
}
