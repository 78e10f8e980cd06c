package tests

import (
	"fmt"
	"slices"
	"testing"

	"loop.example/g00045/impl"
)

// sightPrograms: in each one two states are alike in all but the named part, and there are so many states. (Of Hung there is none: only a thread that is hung stands at a quiet instruction, so that At differs, too.)
var sightPrograms = []struct {
	part, prog string
	states     int
}{
	// Thread 1 has read 6, or has read 5 and has the new view by the fence: it stands at its end, or at one more fence.
	{"at", "cells 5; thread; store c0 6 relaxed; fence; thread; load r1 c0 relaxed; fence; jump r1 == 5 5; set r1 0; fence; set r1 0", 15},
	{"regs", "cells 5; thread; store c0 6 relaxed; fence; thread; load r1 c0 relaxed; fence", 14},
	// Behind both fences both views are the last message: 1 and 2 came, or 2 and 1.
	{"cells", "cells 0; thread; store c0 1 relaxed; fence; thread; store c0 2 relaxed; fence", 15},
	// The message of c0 tells what had been read, or had not been.
	{"told", "cells 0 0; thread; load r1 c1 relaxed; set r1 0; store c0 1 release; fence; thread; store c1 1 relaxed; fence", 20},
	{"seen", "cells 5; thread; store c0 5 relaxed; thread; load r1 c0 relaxed", 5},
	// The fence came behind the read of the message, or ahead of it.
	{"common", "cells 0; thread; store c0 1 release; thread; load r1 c0 acquire; fence; load r1 c0 acquire", 12},
	{"bad", "cells 5; thread; store c0 6 relaxed; fence; thread; load r1 c0 relaxed; fence; assert r1 == 5; set r1 0", 14},
}

func TestStatesThatAreNotOne(t *testing.T) {
	for _, c := range sightPrograms {
		checkMap(t, c.prog, fmt.Sprintf("states %d", c.states))
		p := cellsOf(t, c.prog)
		all := worldOf(p, impl.MaxStates, sightNames)
		fewer := worldOf(p, impl.MaxStates, slices.DeleteFunc(slices.Clone(sightNames), func(name string) bool { return name == c.part }))
		if len(all) != c.states || len(fewer) >= len(all) {
			t.Errorf("%s: %d states, without %s %d", c.prog, len(all), c.part, len(fewer))
		}
	}
}

// States that are alike in all but Calls are one, whether those that began or those that ended are others.
func TestStatesThatAreOneButForCalls(t *testing.T) {
	for _, c := range []struct {
		prog   string
		states int
	}{
		// Which thread's call was first.
		{"cells 0; thread; fence; call 1 7; thread; fence; call 2 8", 4},
		{"cells 0; thread; fence; call 1 7; fence; ret 1; thread; fence; call 2 8", 6},
		// When one began, and when one ended.
		{"cells 0; thread; fence; call 1 7; thread; fence; fence", 6},
		{"cells 0; thread; call 1 7; fence; ret 5; thread; fence; fence", 6},
		// With which argument, and with which result.
		{"cells 5; thread; store c0 6 relaxed; fence; thread; load r1 c0 relaxed; fence; call 1 r1; set r1 0", 13},
		{"cells 5; thread; call 1 0; store c0 6 relaxed; fence; thread; call 1 0; load r1 c0 relaxed; fence; ret r1; set r1 0", 13},
		// How many.
		{"cells 0; thread; fence; call 1 7; jump 0 == 0 0", 1},
		{"cells 0; thread; call 1 7; fence; jump 0 == 0 0; thread; ret 4; fence; jump 0 == 0 0", 1},
	} {
		checkMap(t, c.prog, fmt.Sprintf("states %d", c.states))
		if more := worldOf(cellsOf(t, c.prog), 100, append(slices.Clip(sightNames), "calls")); more != nil && len(more) <= c.states {
			t.Errorf("%s: %d states by their calls, too", c.prog, len(more))
		}
	}
}

// However many calls there are on the way.
func TestStatesOfManyCalls(t *testing.T) {
	// 24 of them a turn.
	checkMap(t, "cells 0; thread; fence; sum r1 1; set r2 0; call 1 r2; sum r2 1; jump r2 < 24 3; jump r1 < 2999 0", "states 3000; moves 2999; runs 1; hung 0")
	checkMap(t, "cells 0; thread; fence; call 1 0; ret 2; ret 3; fence; ret 4; thread; call 1 0; fence; ret 2; ret 3", "states 6; runs 3")
}

// Messages that came in another order, or of which only an early one is another, make another state, whatever came behind them.
func TestStatesOfLongRows(t *testing.T) {
	checkMap(t, "cells 0 0; thread; store c0 1 relaxed; store c1 1 seq; thread; store c0 2 relaxed; await r1 c1 == 1 seq; store c0 3 relaxed; store c0 3 relaxed", "states 14; moves 14; runs 3")
	// The same messages of other cells: which of two it is the thread tells by what it has read.
	checkMap(t, "cells 0 0; thread; store c0 1 relaxed; thread; store c1 1 relaxed", "states 4; moves 4; runs 2")
	checkMap(t, "cells 0 0 0; thread; store c2 1 relaxed; fence; thread; load r1 c2 relaxed; fence; jump r1 == 0 6; store c0 7 relaxed; set r1 0; jump 0 == 0 7; store c1 7 relaxed", "ends fine, stuck , regs /, cells 0 7 1 | fine, stuck , regs /, cells 7 0 1")
}
