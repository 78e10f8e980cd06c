package tests

import (
	"slices"
	"testing"

	"loop.example/g00045/impl"
)

// checkRows holds the three rows of a history against what is told by hand: Linear; ByThreads; Quiet, a row as [0 1], or a code's word.
func checkRows(t *testing.T, kind int, text, linear, byThreads, quiet string) {
	t.Helper()
	g := historyGiven{kind, callsOf(t, text)}
	got, want := g.answer(), g.want()
	for i, told := range []string{linear, byThreads, quiet} {
		name := []string{"Linear", "ByThreads", "Quiet"}[i]
		if shown := got.rows()[i].show(); shown != told {
			t.Errorf("%s of %s: %s, not %s", name, g.show(), shown, told)
		}
		if shown := want.rows()[i].show(); shown != told {
			t.Errorf("%s of %s: the second telling has %s, not %s", name, g.show(), shown, told)
		}
	}
}

func TestRowsOfNoCalls(t *testing.T) {
	for _, kind := range historyKinds {
		checkRows(t, kind, "", "[]", "[]", "[]")
	}
}

// Calls that touch are at one time: the end of the one is the beginning of the other one.
func TestRowsOfCallsThatTouch(t *testing.T) {
	checkRows(t, impl.HkRegister, "0:1(5)=0@0-2 1:2(0)=0@2-3", "[1 0]", "[1 0]", "[1 0]")
	checkRows(t, impl.HkRegister, "0:1(5)=0@0-2 1:2(0)=0@3-3", "none", "[1 0]", "none")
	checkRows(t, impl.HkRegister, "0:1(5)=0@0-2 1:2(0)=5@2-3", "[0 1]", "[0 1]", "[0 1]")
	checkRows(t, impl.HkRegister, "0:1(5)=0@0-2 0:2(0)=0@2-3", "none", "none", "[1 0]")
	checkRows(t, impl.HkRegister, "0:1(5)=0@0-2 0:2(0)=0@3-3", "none", "none", "none")
	checkRows(t, impl.HkRegister, "0:1(5)=0@2-2 1:2(0)=0@2-2", "[1 0]", "[1 0]", "[1 0]")
	checkRows(t, impl.HkRegister, "0:1(5)=0@2-2 0:2(0)=0@2-2", "none", "none", "[1 0]")
	checkRows(t, impl.HkRegister, "1:2(0)=5@0-2 0:1(5)=0@2-3", "[1 0]", "[1 0]", "[1 0]")
	checkRows(t, impl.HkRegister, "1:2(0)=5@0-2 0:1(5)=0@3-4", "none", "[1 0]", "none")
	checkRows(t, impl.HkRegister, "1:2(0)=5@0-2 1:1(5)=0@2-4", "none", "none", "[1 0]")
}

// One rule alone, each with a history that another one does not take.
func TestRowsOfOneRuleAlone(t *testing.T) {
	// behind a write that has ended another thread reads what was ahead of it: by threads
	checkRows(t, impl.HkRegister, "0:1(5)=0@0-2 1:2(0)=0@5-6", "none", "[1 0]", "none")
	// a call that is there all the while: nothing is quiet
	checkRows(t, impl.HkRegister, "0:1(5)=0@0-2 1:2(0)=0@5-6 2:1(7)=0@0-9", "none", "[1 0 2]", "[1 0 2]")
	checkRows(t, impl.HkRegister, "0:1(5)=0@0-2 1:2(0)=0@5-6 2:1(7)@0", "none", "[1 0]", "[1 0]")
	// of one thread, and nothing is quiet: not by threads
	checkRows(t, impl.HkRegister, "0:1(5)=0@0-2 0:2(0)=0@5-6 2:1(7)=0@0-9", "none", "none", "[1 0 2]")
	checkRows(t, impl.HkRegister, "0:1(5)=0@0-2 0:2(0)=0@5-6 2:1(7)@0", "none", "none", "[1 0]")
	// a thread reads the new value, another one behind it the old one
	checkRows(t, impl.HkRegister, "0:1(5)=0@0-9 1:2(0)=5@1-2 2:2(0)=0@3-4", "none", "[2 0 1]", "[2 0 1]")
	// one thread does both
	checkRows(t, impl.HkRegister, "0:1(5)=0@0-9 1:2(0)=5@1-2 1:2(0)=0@3-4", "none", "none", "[2 0 1]")
	// what no order at all has
	checkRows(t, impl.HkRegister, "0:1(5)=0@0-9 1:2(0)=6@1-2", "none", "none", "none")
	// two threads, each of which has its own order; none fits both
	checkRows(t, impl.HkQueue, "0:1(1)=0@0-9 1:1(2)=0@0-9 2:2(0)=1@10-11 2:2(0)=2@12-13 3:2(0)=2@10-11", "none", "none", "none")
	checkRows(t, impl.HkRegister, "0:1(1)=0@0-9 1:1(2)=0@0-9 2:2(0)=1@10-11 2:2(0)=2@12-13 3:2(0)=2@10-11", "none", "[0 2 1 3 4]", "none")
}

// A quiet moment parts what has ended by it from what begins behind it. Call 0 writes, call 1 reads what was there ahead of that.
func TestRowsOfQuietMoments(t *testing.T) {
	for _, c := range []struct{ text, quiet string }{
		{"0:1(5)=0@0-2 1:2(0)=0@3-4", "none"},
		{"0:1(5)=0@0-2 1:2(0)=0@9-9", "none"},
		// another one ends with the write, or ahead of it
		{"0:1(5)=0@0-2 1:2(0)=0@3-4 2:1(7)=0@1-2", "none"},
		{"0:1(5)=0@0-2 1:2(0)=0@3-4 2:1(7)=0@2-2", "none"},
		{"0:1(5)=0@0-2 1:2(0)=0@3-4 2:1(7)=0@0-1", "none"},
		// it begins with the read
		{"0:1(5)=0@0-2 1:2(0)=0@3-4 2:1(7)=0@3-8", "none"},
		{"0:1(5)=0@0-2 1:2(0)=0@3-4 2:1(7)@3", "none"},
		// it is open over the only moment
		{"0:1(5)=0@0-2 1:2(0)=0@3-4 2:1(7)=0@2-3", "[1 0 2]"},
		{"0:1(5)=0@0-2 1:2(0)=0@3-4 2:1(7)=0@1-9", "[1 0 2]"},
		{"0:1(5)=0@0-2 1:2(0)=0@3-4 2:1(7)@2", "[1 0]"},
		{"0:1(5)=0@0-2 1:2(0)=0@3-4 2:1(7)@0", "[1 0]"},
		// it leaves the first moment, or the last one, or one between
		{"0:1(5)=0@0-2 1:2(0)=0@6-7 2:1(7)=0@3-9", "none"},
		{"0:1(5)=0@0-2 1:2(0)=0@6-7 2:1(7)=0@0-5", "none"},
		{"0:1(5)=0@0-2 1:2(0)=0@6-7 2:1(7)=0@1-3 3:1(7)=0@4-9", "none"},
		{"0:1(5)=0@0-2 1:2(0)=0@6-7 2:1(7)=0@2-4 3:1(7)=0@4-9", "[1 0 2 3]"},
		{"0:1(5)=0@0-2 1:2(0)=0@6-7 2:1(7)=0@2-6", "[1 0 2]"},
		{"0:1(5)=0@0-2 1:2(0)=0@6-7 2:1(7)=0@2-5", "none"},
		// a moment at which another call ends that is not one of the two
		{"0:1(5)=0@0-2 1:2(0)=0@6-7 2:1(7)=0@1-5 3:1(7)=0@6-8", "none"},
		{"0:1(5)=0@0-2 1:2(0)=0@6-7 2:1(7)=0@1-5 3:1(7)=0@5-8", "[1 0 2 3]"},
		// moments ahead of the write's end, and behind the read's beginning, part nothing
		{"2:1(7)=0@0-1 0:1(5)=0@3-6 1:2(0)=7@5-9 3:1(8)=0@12-13", "[0 2 1 3]"},
	} {
		g := historyGiven{impl.HkRegister, callsOf(t, c.text)}
		got, want := g.answer().isQuiet.show(), g.want().isQuiet.show()
		if got != c.quiet || want != c.quiet {
			t.Errorf("%s: %s and %s, not %s", g.show(), got, want, c.quiet)
		}
	}
}

// An open call has taken effect, or has not, or may have: of two rows that begin alike the shorter one is told.
func TestRowsOfOpenCalls(t *testing.T) {
	// it must
	checkRows(t, impl.HkRegister, "0:1(5)@0 1:2(0)=5@3-4", "[0 1]", "[0 1]", "[0 1]")
	checkRows(t, impl.HkRegister, "1:2(0)=5@3-4 0:1(5)@0", "[1 0]", "[1 0]", "[1 0]")
	checkRows(t, impl.HkStack, "0:1(5)=0@0-1 1:2(0)@2 2:2(0)=-1@3-4", "[0 1 2]", "[0 1 2]", "[0 1 2]")
	// it must not have by then, and it stands behind
	checkRows(t, impl.HkRegister, "0:1(5)@0 1:2(0)=0@3-4", "[1]", "[1]", "[1]")
	checkRows(t, impl.HkRegister, "0:1(5)@0 1:2(0)=0@3-4 2:2(0)=5@6-7", "[1 0 2]", "[1 0 2]", "[1 0 2]")
	// it may
	checkRows(t, impl.HkRegister, "0:1(5)@0 1:1(6)=0@3-4", "[0 1]", "[0 1]", "[0 1]")
	checkRows(t, impl.HkRegister, "1:1(6)=0@3-4 0:1(5)@0", "[0]", "[0]", "[0]")
	checkRows(t, impl.HkRegister, "0:1(5)@0", "[]", "[]", "[]")
	checkRows(t, impl.HkRegister, "0:1(5)@0 1:1(5)@0 2:2(0)@0 3:1(6)@9", "[]", "[]", "[]")
	checkRows(t, impl.HkOnce, "0:1(5)@0 1:1(6)@0 2:1(7)=6@0-9", "[1 0 2]", "[1 0 2]", "[1 0 2]")
	checkRows(t, impl.HkOnce, "2:1(7)=6@0-9 0:1(5)@0 1:1(6)@0", "[2 0]", "[2 0]", "[2 0]")
	// it begins behind the end of another one
	checkRows(t, impl.HkQueue, "0:1(1)=0@0-1 1:1(2)@5 2:2(0)=2@6-7", "none", "[1 0 2]", "none")
	checkRows(t, impl.HkQueue, "1:1(2)@5 0:1(1)=0@0-1 2:2(0)=2@6-7", "none", "[0 1 2]", "none")
	checkRows(t, impl.HkQueue, "1:1(2)@1 0:1(1)=0@0-1 2:2(0)=2@6-7", "[0 1 2]", "[0 1 2]", "[0 1 2]")
	checkRows(t, impl.HkRegister, "1:1(2)@5 0:1(1)=0@0-1 2:2(0)=2@6-7", "[1 0 2]", "[0 2 1]", "[1 0 2]")
	checkRows(t, impl.HkRegister, "1:1(2)@5 0:1(1)=0@0-1 2:2(0)=1@6-7", "[1 2]", "[0 1 2]", "[1 2]")
	checkRows(t, impl.HkRegister, "0:1(1)=0@0-1 0:1(2)@1 2:2(0)=1@6-7", "[0 2]", "[0 2]", "[0 2]")
	// two open ones, of which one is needed
	checkRows(t, impl.HkCounter, "0:1(2)@0 1:1(3)@0 2:2(0)=3@4-5", "[1 2]", "[1 2]", "[1 2]")
	checkRows(t, impl.HkCounter, "0:1(2)@0 1:1(3)@0 2:2(0)=5@4-5", "[0 1 2]", "[0 1 2]", "[0 1 2]")
	checkRows(t, impl.HkCounter, "0:1(2)@0 1:1(3)@0 2:2(0)=1@4-5", "none", "none", "none")
	checkRows(t, impl.HkLock, "0:1(0)@0 1:1(0)=1@0-1 2:2(0)@0 1:1(0)=1@2-3", "[1 0 2 3]", "[1 0 2 3]", "[1 0 2 3]")
	checkRows(t, impl.HkLock, "2:1(0)@0 1:1(0)=1@0-1 0:2(0)@0 1:1(0)=1@2-3 3:2(0)=0@4-5", "none", "[1 0 2 4 3]", "[1 0 2 4 3]")
}

// The least row is told, whatever the calls are.
func TestRowsAreLeast(t *testing.T) {
	checkRows(t, impl.HkSet, "0:1(3)=1@0-9 1:2(3)=1@0-9 2:1(3)=1@0-9 3:3(3)=0@0-9", "[0 1 3 2]", "[0 1 3 2]", "[0 1 3 2]")
	checkRows(t, impl.HkSet, "0:3(3)=0@0-9 1:2(3)=1@0-9 2:1(3)=1@0-9 3:1(3)=1@0-9", "[0 2 1 3]", "[0 2 1 3]", "[0 2 1 3]")
	checkRows(t, impl.HkLock, "0:2(0)=1@0-9 1:1(0)=1@0-9 2:1(0)=0@0-9 3:2(0)=0@0-9", "[1 2 0 3]", "[1 2 0 3]", "[1 2 0 3]")
	checkRows(t, impl.HkCounter, "0:1(2)=3@0-9 1:1(3)=0@0-9 2:1(-5)=5@0-9 3:2(0)=0@0-9", "[1 0 2 3]", "[1 0 2 3]", "[1 0 2 3]")
	checkRows(t, impl.HkStack, "0:1(1)=0@0-9 1:1(2)=0@0-9 2:2(0)=1@0-9 3:2(0)=2@0-9", "[0 1 3 2]", "[0 1 3 2]", "[0 1 3 2]")
	checkRows(t, impl.HkStack, "0:2(0)=1@0-9 1:1(2)=0@0-9 2:1(1)=0@0-9 3:2(0)=-1@0-9", "[2 0 3 1]", "[2 0 3 1]", "[2 0 3 1]")
	checkRows(t, impl.HkQueue, "0:2(0)=1@0-9 1:1(2)=0@0-9 2:1(1)=0@0-9 3:2(0)=-1@0-9", "[2 0 3 1]", "[2 0 3 1]", "[2 0 3 1]")
	checkRows(t, impl.HkOnce, "0:1(1)=3@0-9 1:1(2)=3@0-9 2:1(3)=3@0-9", "[2 0 1]", "[2 0 1]", "[2 0 1]")
}

// Ten calls that all are at one time. Of Quiet no rule binds them.
func TestRowsOfTenAtOneTime(t *testing.T) {
	numbered := func(op int, count int) []impl.Call {
		out := repeated(count, impl.Call{Op: op})
		for i := range out {
			out[i].Arg = i + 1
		}
		return out
	}
	pops := make([]impl.Call, 5)
	for i := range pops {
		pops[i] = impl.Call{Op: 2, Ret: 5 - i}
	}
	isAnswered := func(h []impl.Call, ret int) []impl.Call {
		for i := range h {
			h[i].Ret = ret
		}
		return h
	}
	read := func(ret int) impl.Call { return impl.Call{Op: 2, Ret: ret} }
	for _, c := range []struct {
		kind int
		h    []impl.Call
		want string
	}{
		{impl.HkRegister, numbered(1, 10), "[0 1 2 3 4 5 6 7 8 9]"},
		{impl.HkRegister, append(numbered(1, 9), read(3)), "[0 1 2 9 3 4 5 6 7 8]"},
		{impl.HkRegister, append(numbered(1, 8), read(8), read(1)), "[0 9 1 2 3 4 5 6 7 8]"},
		{impl.HkRegister, append(numbered(1, 9), read(77)), "none"},
		{impl.HkRegister, append([]impl.Call{read(77)}, numbered(1, 9)...), "none"},
		{impl.HkCounter, append(repeated(9, impl.Call{Op: 1}), read(1)), "none"},
		{impl.HkCounter, append(repeated(9, impl.Call{Op: 1}), read(0)), "[0 1 2 3 4 5 6 7 8 9]"},
		{impl.HkStack, append(numbered(1, 5), pops...), "[0 1 2 3 4 5 6 7 8 9]"},
		{impl.HkQueue, append(numbered(1, 5), pops...), "[0 1 2 3 4 9 8 7 6 5]"},
		{impl.HkStack, append(numbered(1, 9), read(77)), "none"},
		{impl.HkQueue, append(numbered(1, 9), read(77)), "none"},
		{impl.HkQueue, append(numbered(1, 9), read(9)), "[8 0 1 2 3 4 5 6 7 9]"},
		{impl.HkLock, isAnswered(numbered(1, 10), 1), "none"},
		{impl.HkLock, append(isAnswered(numbered(1, 5), 1), isAnswered(numbered(2, 5), 1)...), "[0 5 1 6 2 7 3 8 4 9]"},
		{impl.HkSet, append(isAnswered(numbered(1, 9), 1), impl.Call{Op: 3, Arg: 77, Ret: 1}), "none"},
		{impl.HkSet, append(isAnswered(numbered(1, 9), 1), impl.Call{Op: 3, Arg: 9}), "[0 1 2 3 4 5 6 7 9 8]"},
		{impl.HkOnce, isAnswered(numbered(1, 10), 10), "[9 0 1 2 3 4 5 6 7 8]"},
		{impl.HkOnce, isAnswered(numbered(1, 10), 11), "none"},
	} {
		g := historyGiven{c.kind, atOneMoment(c.h)}
		if got := rowAnswer(impl.Quiet(g.kind, g.calls)).show(); got != c.want {
			t.Errorf("%s: %s, not %s", g.show(), got, c.want)
		}
		for _, r := range []oneRow{rowAnswer(impl.Linear(g.kind, g.calls)), rowAnswer(impl.ByThreads(g.kind, g.calls))} {
			if c.want == "none" && r.code != impl.ErrNone {
				t.Errorf("%s: %s", g.show(), r.show())
			}
		}
	}
}

// Ten calls, the last one of each thread open, and what no order has.
func TestRowsOfTenWithOpenCalls(t *testing.T) {
	for _, kind := range []int{impl.HkRegister, impl.HkStack, impl.HkQueue} {
		h := make([]impl.Call, 10)
		for i := range h {
			h[i] = impl.Call{Op: 1, Arg: i + 1}
		}
		h[0] = impl.Call{Op: 2, Ret: 77}
		h = atOneMoment(h)
		for i := range h[6:] {
			h[6+i].To = -1
		}
		for _, r := range (historyGiven{kind, h}).answer().rows() {
			if r.code != impl.ErrNone || len(r.row) > 0 {
				t.Errorf("kind %d: %s", kind, r.show())
			}
		}
		h[0].Ret = 10
		want := map[int]string{impl.HkRegister: "[1 2 3 4 5 6 7 8 9 0]", impl.HkStack: "[1 2 3 4 5 6 7 8 9 0]", impl.HkQueue: "[9 0 1 2 3 4 5]"}
		if got := rowAnswer(impl.Quiet(kind, h)).show(); got != want[kind] {
			t.Errorf("kind %d: %s, not %s", kind, got, want[kind])
		}
	}
}

// The rows of any make.
func TestRowsOfAnyMake(t *testing.T) {
	s := newSource()
	counts := map[string]int{}
	for range 6000 {
		g := anyHistory(s, 6)
		got, want := g.answer(), g.want()
		if got.show() != want.show() {
			t.Fatalf("%s: %s\nnot\n%s", g.show(), got.show(), want.show())
		}
		if got.serialCode == impl.OK && len(g.calls) > 2 {
			count(counts, got)
		}
	}
	for _, what := range []string{"Linear", "ByThreads", "Quiet", "no Linear", "no ByThreads", "no Quiet", "three rows", "ByThreads alone", "Quiet alone", "without Linear"} {
		if counts[what] < 20 {
			t.Errorf("%d with %s", counts[what], what)
		}
	}
}

// count: which rows there are, and how they differ.
func count(counts map[string]int, a historyAnswer) {
	names := []string{"Linear", "ByThreads", "Quiet"}
	is := map[string]bool{}
	for i, r := range a.rows() {
		is[names[i]] = r.code == impl.OK
		if r.code == impl.OK {
			counts[names[i]]++
		} else {
			counts["no "+names[i]]++
		}
	}
	rows := a.rows()
	isSame := func(a, b oneRow) bool { return slices.Equal(a.row, b.row) }
	switch {
	case is["Linear"] && !isSame(rows[0], rows[1]) && !isSame(rows[0], rows[2]) && !isSame(rows[1], rows[2]):
		counts["three rows"]++
	case is["ByThreads"] && is["Quiet"] && !is["Linear"]:
		counts["without Linear"]++
	case is["ByThreads"] && !is["Quiet"]:
		counts["ByThreads alone"]++
	case is["Quiet"] && !is["ByThreads"]:
		counts["Quiet alone"]++
	}
}
