package tests

import (
	"math"
	"slices"
	"strings"
	"testing"

	"loop.example/g00045/impl"
)

// checkFolded: so many states, and so many when they are folded.
func checkFolded(t *testing.T, prog string, states, folded int) {
	t.Helper()
	p := cellsOf(t, prog)
	r, code := impl.Explore(p, impl.MaxStates)
	got, foldedCode := impl.Folded(p, impl.MaxStates)
	if code != impl.OK || foldedCode != impl.OK || r.States != states || got != folded {
		t.Errorf("%s: %d states, %s, %d folded, %s, not %d and %d", prog, r.States, impl.CodeWord(code), got, impl.CodeWord(foldedCode), states, folded)
	}
	if w, _ := wantWorld(p, impl.MaxStates); w.folded(p) != folded {
		t.Fatalf("%s: the second telling has %d", prog, w.folded(p))
	}
}

func checkFoldedCode(t *testing.T, what string, p impl.Prog, most, want int) {
	t.Helper()
	if folded, code := impl.Folded(p, most); code != want || folded != 0 {
		t.Errorf("%s, most %d: %d, %s, not %s", what, most, folded, impl.CodeWord(code), impl.CodeWord(want))
	}
}

func TestFoldedCodes(t *testing.T) {
	twoAdds := "cells 0; thread; add r1 c0 1 relaxed; thread; add r1 c0 1 relaxed"
	p := cellsOf(t, twoAdds)
	for _, most := range slices.Concat([]int{0, -1, -3000, 3001, 4096, 1 << 32, math.MinInt, math.MaxInt}, anyNumbers) {
		if 1 <= most && most <= 3000 {
			continue
		}
		checkFoldedCode(t, twoAdds, p, most, impl.ErrBad)
		checkFoldedCode(t, "too many states", cellsOf(t, "cells 0"+countTo(5000)), most, impl.ErrBad)
	}
	for _, wrong := range wrongProgs() {
		for _, most := range []int{0, 1, 5, 3000, 3001} {
			checkFoldedCode(t, "a wrong program", wrong, most, impl.ErrBad)
		}
	}
	// States are counted ahead of their being folded: there are five of them.
	for most := 1; most <= 8; most++ {
		if most < 5 {
			checkFoldedCode(t, twoAdds, p, most, impl.ErrFuel)
		} else if folded, code := impl.Folded(p, most); folded != 3 || code != impl.OK {
			t.Errorf("most %d: %d, %s", most, folded, impl.CodeWord(code))
		}
	}
	checkFoldedCode(t, "3001 states", cellsOf(t, "cells 0"+countTo(3000)), 3000, impl.ErrFuel)
	checkFoldedCode(t, "40 fences each", cellsOf(t, "cells 0"+strings.Repeat(fenceRow(40), 4)), 3000, impl.ErrFuel)
	checkFolded(t, "cells 0"+countTo(2999), 3000, 3000)
	// A loop is no fault here.
	checkFolded(t, "cells 0; thread; fence; jump 0 == 0 0; thread; fence; jump 0 == 0 0", 1, 1)
}

func TestFoldedByHand(t *testing.T) {
	one := "; thread; load r1 c0 relaxed"
	checkFolded(t, "cells 0; thread; add r1 c0 1 relaxed; thread; add r1 c0 1 relaxed", 5, 3)
	// So many of them have done their turn.
	checkFolded(t, "cells 0"+one, 2, 2)
	checkFolded(t, "cells 0"+one+one, 4, 3)
	checkFolded(t, "cells 0"+one+one+one, 8, 4)
	checkFolded(t, "cells 0"+one+one+one+one, 16, 5)
	// Each of four stands at one of three places, or of four.
	checkFolded(t, "cells 0"+strings.Repeat(loadRow(2), 4), 81, 15)
	checkFolded(t, "cells 0"+strings.Repeat(loadRow(3), 4), 256, 35)
	checkFolded(t, "cells 0"+strings.Repeat(loadRow(3), 3), 64, 20)
	// Two pairs, however they stand; a pair and two that are like none; three and one.
	other := "; thread; load r2 c0 relaxed"
	for _, prog := range []string{one + one + other + other, one + other + one + other, one + other + other + one, other + one + one + other} {
		checkFolded(t, "cells 0"+prog, 16, 9)
	}
	third := "; thread; load r3 c0 relaxed"
	for _, prog := range []string{one + one + other + third, other + one + third + one, one + other + third + one, third + other + one + one} {
		checkFolded(t, "cells 0"+prog, 16, 12)
	}
	for _, prog := range []string{one + one + one + other, one + other + one + one, other + one + one + one} {
		checkFolded(t, "cells 0"+prog, 16, 8)
	}
	checkFolded(t, "cells 0"+one+other+third+"; thread; load r4 c0 relaxed", 16, 16)
	// Threads without instructions.
	checkFolded(t, "cells 0; thread", 1, 1)
	checkFolded(t, "cells 0; thread; thread; thread; thread", 1, 1)
	checkFolded(t, "cells 0; thread; thread; load r1 c0 relaxed; thread; thread; load r1 c0 relaxed", 4, 3)
	checkFolded(t, "cells 0; thread; thread; load r1 c0 relaxed; load r1 c0 relaxed; thread; load r1 c0 relaxed", 6, 6)
	// Threads without a step on memory.
	checkFolded(t, "cells 0; thread; set r1 4; thread; set r1 4; thread; jump 0 == 0 0; thread; jump 0 == 0 0", 1, 1)
}

// Instructions that differ in one field, whichever it is, at one place are others.
func TestFoldedUnlikeThreads(t *testing.T) {
	for _, pair := range [][2]string{
		{"load r1 c0 relaxed", "load r2 c0 relaxed"},
		{"load r1 c0 relaxed", "load r1 c1 relaxed"},
		{"load r1 c0 relaxed", "load r1 c0 acquire"},
		{"await r1 c0 == 0 relaxed", "await r1 c0 <= 0 relaxed"},
		{"await r1 c0 == 0 relaxed", "await r1 c0 == r1 relaxed"},
		{"await r1 c0 <= 0 relaxed", "await r1 c0 <= 1 relaxed"},
		{"cas r1 c0 1 2 relaxed", "cas r1 c0 1 3 relaxed"},
		{"cas r1 c0 1 0 relaxed", "cas r1 c0 1 r1 relaxed"},
		{"cas r1 c0 1 2 relaxed", "cas r1 c0 3 2 relaxed"},
		{"load r1 c0 relaxed; jump 1 == 2 0", "load r1 c0 relaxed; jump 1 == 2 1"},
		{"load r1 c0 relaxed; call 3 1", "load r1 c0 relaxed; call 4 1"},
		{"load r1 c0 relaxed; assert 0 == 0", "load r1 c0 relaxed; assert 0 <= 0"},
		{"load r1 c0 relaxed; set r2 0", "load r1 c0 relaxed; sum r2 0"},
		{"load r1 c0 relaxed; set r2 0", "load r1 c0 relaxed"},
	} {
		one, other := "; thread; "+pair[0], "; thread; "+pair[1]
		checkFolded(t, "cells 0 0"+one+other, 4, 4)
		checkFolded(t, "cells 0 0"+other+one, 4, 4)
		checkFolded(t, "cells 0 0"+one+one, 4, 3)
		checkFolded(t, "cells 0 0"+other+other, 4, 3)
		checkFolded(t, "cells 0 0"+one+other+one, 8, 6)
	}
}

// Threads are exchanged with all that is theirs: what stands with what tells states apart.
func TestFoldedStances(t *testing.T) {
	writer := "cells 0; thread; store c0 1 relaxed"
	// Of each reader: not yet, or it has read 0 or 1; what was read is in its register and in its view, or in its view alone.
	for _, reader := range []string{"; thread; load r1 c0 relaxed", "; thread; load r1 c0 relaxed; set r1 0"} {
		checkFolded(t, writer+reader, 5, 5)
		checkFolded(t, writer+reader+reader, 4+9, 3+6)
		checkFolded(t, writer+reader+reader+reader, 8+27, 4+10)
		// Of a reader of another kind, which stands between them.
		checkFolded(t, writer+reader+"; thread; load r2 c0 relaxed"+reader, 8+27, 6+18)
	}
	// Of the two that come last only the register tells which cas has written.
	cas := "; thread; await r1 c1 == 7 relaxed; cas r1 c0 0 1 relaxed"
	checkFolded(t, "cells 0 7"+cas+cas, 4+6, 3+3)
	// The one that has added first may know the other's message or not, once both are at their end.
	pair := "; thread; add r1 c0 1 relaxed; fence"
	checkFolded(t, "cells 0"+pair+pair, 15, 8)
}

// twinCells: a right program of a few steps, in which some threads have the instructions of others, or all but one field of them.
func twinCells(s source) impl.Prog {
	m := cellMaker{s, 1 + s.IntN(2), pick(s, []int{0, 2, 3, 5}), pick(s, []int{1, 2, 4, 10, 100})}
	p := m.prog(1+s.IntN(2), 3)
	for count := 2 + s.IntN(3); len(p.Threads) < count; {
		twin := slices.Clone(pick(s, p.Threads))
		if len(twin) > 0 && s.IntN(4) == 0 {
			at := s.IntN(len(twin))
			twin[at] = m.ins(at, len(twin))
		}
		p.Threads = slices.Insert(p.Threads, s.IntN(len(p.Threads)+1), twin)
	}
	return p
}

// Programs of any make: each answer is the second telling's, and so it is with just as many states as there are, and with one fewer.
func TestFoldedOfAnyMake(t *testing.T) {
	s := newSource()
	counts := map[string]int{}
	for i := range 1500 {
		p := twinCells(s)
		if i%20 == 0 {
			p = turnCells(s, p)
		}
		const most = 120
		want, wantCode := wantFolded(p, most)
		got, code := impl.Folded(p, most)
		if got != want || code != wantCode {
			t.Fatalf("%s%d, %s, not %d, %s", showCells(p), got, impl.CodeWord(code), want, impl.CodeWord(wantCode))
		}
		counts[impl.CodeWord(code)]++
		r, code := impl.Explore(p, most)
		if code != impl.OK {
			continue
		}
		if r.States > 3*got {
			counts["few"]++
		}
		if again, code := impl.Folded(p, r.States); again != got || code != impl.OK {
			t.Fatalf("%smost %d: %d, %s, not %d", showCells(p), r.States, again, impl.CodeWord(code), got)
		}
		if r.States > 1 {
			checkFoldedCode(t, showCells(p), p, r.States-1, impl.ErrFuel)
		}
	}
	if min(counts["few"], counts["fuel"]) < 50 || counts["ok"] < 500 || counts["bad"] < 20 {
		t.Errorf("%v", counts)
	}
}
