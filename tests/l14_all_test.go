package tests

import (
	"math"
	"reflect"
	"runtime"
	"slices"
	"sync"
	"testing"

	"loop.example/g00045/impl"
)

// isEndOf: no turn can come next behind these.
func isEndOf(p impl.Prog, turns []impl.Turn) bool {
	ready, code := impl.Ready(p, turns)
	return code == impl.OK && len(ready) == 0
}

// classEnds: what the ends of these runs tell, each once, in order; a fault if one of them leads to no end.
func classEnds(p impl.Prog, runs [][]impl.Turn) ([]impl.End, string) {
	var ends []impl.End
	for _, run := range runs {
		s, code, _ := impl.Play(p, run)
		if code != impl.OK || !isEndOf(p, run) {
			return nil, "a run that leads to no end: " + toldTurns(run)
		}
		if e := endIn(p, s); !slices.ContainsFunc(ends, func(other impl.End) bool { return isSameEnd(e, other) }) {
			ends = append(ends, e)
		}
	}
	slices.SortFunc(ends, func(a, b impl.End) int { return slices.Compare(endOrder(a), endOrder(b)) })
	return ends, ""
}

// classFault: what is wrong with these runs as those of each kind, by the answers alone; empty if nothing is.
func classFault(s source, p impl.Prog, runs [][]impl.Turn) string {
	r, _ := impl.Explore(p, impl.MaxStates)
	ends, fault := classEnds(p, runs)
	if fault != "" {
		return fault
	}
	if toldEnds(ends) != toldEnds(r.Ends) {
		return "ends " + toldEnds(ends) + "\nnot " + toldEnds(r.Ends)
	}
	if !slices.IsSortedFunc(runs, runOrder) {
		return "out of order"
	}
	for i, run := range runs {
		for range min(i, 20) {
			if other := runs[s.IntN(i)]; isAlikeRow(p, run, other) {
				return "two that are alike: " + toldTurns(run) + " and " + toldTurns(other)
			}
		}
	}
	for range 3 {
		turns, m := anyTurns(s, p, 60)
		if !m.isEnd() {
			continue
		}
		alike := slices.DeleteFunc(slices.Clone(runs), func(run []impl.Turn) bool { return !isAlikeRow(p, turns, run) })
		if len(alike) != 1 || runOrder(alike[0], turns) > 0 {
			return "a run that is alike to " + toldRuns(alike) + ": " + toldTurns(turns)
		}
	}
	return ""
}

func isAlikeRow(p impl.Prog, a, b []impl.Turn) bool {
	isAlike, code := impl.Alike(p, a, b)
	return isAlike && code == impl.OK
}

// P15: one run of each class has all ends.
func TestClassesHaveAllEnds(t *testing.T) {
	s := newSource()
	programs, stuck, hung, bad, fewer := 0, 0, 0, 0, 0
	for i := range 1500 {
		p := fewCells(s)
		if i%3 == 0 {
			p = twinCells(s)
		}
		runs, code := impl.Classes(p)
		if code != impl.OK || len(runs) > 150 {
			continue
		}
		if fault := classFault(s, p, runs); fault != "" {
			t.Fatalf("%s%s", showCells(p), fault)
		}
		r, _ := impl.Explore(p, impl.MaxStates)
		programs, stuck, hung, bad = programs+1, stuck+min(r.Stuck, 1), hung+min(r.Hung, 1), bad+min(r.Bad, 1)
		if count, _ := impl.Runs(p, impl.MaxStates); count > len(runs) && len(r.Ends) > 1 {
			fewer++
		}
	}
	if programs < 900 || min(stuck, bad) < 50 || hung < 5 || fewer < 100 {
		t.Errorf("%d programs, %d stuck, %d hung, %d bad, %d with fewer classes", programs, stuck, hung, bad, fewer)
	}
}

// stepAt: the instruction at which a thread stands behind these turns.
func stepAt(p impl.Prog, turns []impl.Turn, thread int) impl.Ins {
	s, _, _ := impl.Play(p, turns)
	return p.Threads[thread][s.At[thread]]
}

// isSameState: but for the calls.
func isSameState(a, b impl.State) bool {
	a.Calls, b.Calls = nil, nil
	return reflect.DeepEqual(tidyMemory(a), tidyMemory(b))
}

// exchangeFault: two neighbours of other threads that are apart can be exchanged, those that are not apart make no row that is alike. It answers how many of each there were.
func exchangeFault(p impl.Prog, turns []impl.Turn) (int, int, string) {
	apart, others := 0, 0
	state, _, _ := impl.Play(p, turns)
	for i := range len(turns) - 1 {
		one, next := turns[i], turns[i+1]
		if one.Thread == next.Thread {
			continue
		}
		other := slices.Clone(turns)
		other[i], other[i+1] = next, one
		again, code, _ := impl.Play(p, other)
		if !impl.Apart(stepAt(p, turns[:i], one.Thread), stepAt(p, turns[:i+1], next.Thread)) {
			others++
			if isAlikeRow(p, turns, other) {
				return 0, 0, "alike, though not apart: " + toldTurns(other)
			}
			continue
		}
		apart++
		if code != impl.OK || !isSameState(state, again) || !isAlikeRow(p, turns, other) {
			return 0, 0, impl.CodeWord(code) + ", exchanged: " + toldTurns(other) + "\n" + showMemory(again)
		}
	}
	return apart, others, ""
}

// normalFault: the turns of a Normal, row by row, are a row of turns that is alike to the one handed in, and stand as they should.
func normalFault(p impl.Prog, turns []impl.Turn) string {
	rows, code := impl.Normal(p, turns)
	flat := slices.Concat(rows...)
	state, _, _ := impl.Play(p, turns)
	again, againCode, _ := impl.Play(p, flat)
	if code != impl.OK || againCode != impl.OK || len(flat) != len(turns) || !isSameState(state, again) || !isAlikeRow(p, turns, flat) {
		return "normal " + toldRuns(rows) + ", " + impl.CodeWord(againCode)
	}
	var ahead []impl.Turn
	for i, row := range rows {
		for k, turn := range row {
			if k > 0 && row[k-1].Thread >= turn.Thread {
				return "a row that is not in order: " + toldRuns(rows)
			}
			if i > 0 && !hasInRow(p, ahead, rows[i-1], turn) {
				return "a turn that could stand further ahead: " + toldRuns(rows)
			}
		}
		ahead = append(ahead, row...)
	}
	return ""
}

// hasInRow: in the last row of those ahead there is a turn of the same thread, or one that is not apart.
func hasInRow(p impl.Prog, ahead, row []impl.Turn, turn impl.Turn) bool {
	before := ahead[:len(ahead)-len(row)]
	step := stepAt(p, ahead, turn.Thread)
	return slices.ContainsFunc(row, func(other impl.Turn) bool {
		return other.Thread == turn.Thread || !impl.Apart(stepAt(p, before, other.Thread), step)
	})
}

// P15: neighbours that are apart can be exchanged.
func TestNeighboursCanBeExchanged(t *testing.T) {
	s := newSource()
	apart, others := 0, 0
	for i := range 800 {
		p := anyCells(s, i%4 > 0, i%10 == 0)
		turns, _ := anyTurns(s, p, 5+s.IntN(25))
		count, more, fault := exchangeFault(p, turns)
		if fault += normalFault(p, turns); fault != "" {
			t.Fatalf("%s%s\n%s", showCells(p), toldTurns(turns), fault)
		}
		apart, others = apart+count, others+more
	}
	if min(apart, others) < 800 {
		t.Errorf("%d apart, %d not", apart, others)
	}
}

func hasTwins(p impl.Prog) bool {
	for i, code := range p.Threads {
		for _, other := range p.Threads[:i] {
			if slices.Equal(code, other) {
				return true
			}
		}
	}
	return false
}

// P15: folded states are at most as many as states.
func TestFoldedStatesAreFewer(t *testing.T) {
	s := newSource()
	counts := map[bool]int{}
	for range 800 {
		p := twinCells(s)
		r, code := impl.Explore(p, 1000)
		folded, foldedCode := impl.Folded(p, 1000)
		if code != foldedCode {
			t.Fatalf("%s%s, folded %s", showCells(p), impl.CodeWord(code), impl.CodeWord(foldedCode))
		}
		if code != impl.OK {
			continue
		}
		counts[hasTwins(p)]++
		if folded > r.States || 24*folded < r.States || !hasTwins(p) && folded != r.States {
			t.Fatalf("%s%d states, %d folded", showCells(p), r.States, folded)
		}
	}
	if min(counts[true], counts[false]) < 100 {
		t.Errorf("%v", counts)
	}
}

func anyReduceGiven(s source) reduceGiven {
	g := reduceGiven{p: fewCells(s), most: 300}
	if s.IntN(2) == 0 {
		g.p = twinCells(s)
	}
	g.a, _ = anyTurns(s, g.p, s.IntN(10))
	g.b = slices.Clone(g.a)
	for range s.IntN(3) {
		g.b = turnedTurns(s, g.b)
	}
	switch s.IntN(12) {
	case 0:
		g.p = turnCells(s, g.p)
	case 1:
		g.most = pick(s, []int{0, 1, 2, 5, 3001, math.MaxInt, math.MinInt})
	case 2:
		g.a = append(g.a, wildTurn(s))
	}
	return g
}

// turned gives lists of their own, each as work makes it of the one that is there.
func (g reduceGiven) turned(ints func([]int) []int, codes func([][]impl.Ins) [][]impl.Ins, code func([]impl.Ins) []impl.Ins, turns func([]impl.Turn) []impl.Turn) reduceGiven {
	g.p = impl.Prog{Init: ints(g.p.Init), Threads: codes(g.p.Threads)}
	for i := range g.p.Threads {
		g.p.Threads[i] = code(g.p.Threads[i])
	}
	g.a, g.b = turns(g.a), turns(g.b)
	return g
}

func (g reduceGiven) roomy() reduceGiven {
	return g.turned(
		func(list []int) []int { return roomy(list, 77) },
		func(list [][]impl.Ins) [][]impl.Ins { return roomy(list, fences(2)) },
		func(list []impl.Ins) []impl.Ins { return roomy(list, impl.Ins{Op: 77}) },
		func(list []impl.Turn) []impl.Turn { return roomy(list, impl.Turn{Thread: 77, Choice: 77}) })
}

func (g reduceGiven) whole() reduceGiven {
	return g.turned(whole[int], whole[[]impl.Ins], whole[impl.Ins], whole[impl.Turn])
}

// All calls together answer as the second telling does.
func TestReduceOfAnyMake(t *testing.T) {
	s := newSource()
	for range 400 {
		g := anyReduceGiven(s)
		if got, want := g.answer(), g.want(); !isSameAnswer(got, want) {
			t.Fatalf("%s%s\nnot\n%s", g.show(), got.show(), want.show())
		}
	}
}

// P1: what is given stays as it was, behind its end too; answers do not hang on what was called ahead.
func TestReduceDoesNotChangeWhatIsGiven(t *testing.T) {
	s := newSource()
	var all, before []reduceGiven
	var first []reduceAnswer
	for range 500 {
		g := anyReduceGiven(s).roomy()
		all, before, first = append(all, g), append(before, g.whole()), append(first, g.answer())
	}
	for i := len(all) - 1; i >= 0; i-- {
		if again := all[i].answer(); !isSameAnswer(again, first[i]) {
			t.Fatalf("%s%s\nthen\n%s", all[i].show(), first[i].show(), again.show())
		}
	}
	for i, g := range all {
		if !reflect.DeepEqual(g.whole(), before[i]) {
			t.Fatalf("%s: was changed", g.show())
		}
	}
}

// P1: an empty list and nil are the same.
func TestReduceOfEmptyLists(t *testing.T) {
	s := newSource()
	for range 300 {
		g := anyReduceGiven(s)
		if s.IntN(4) == 0 {
			g.p.Init = nil
		}
		if s.IntN(4) == 0 {
			g.p.Threads = nil
		}
		if s.IntN(2) == 0 {
			g.a = nil
		}
		if len(g.p.Threads) > 1 && s.IntN(2) == 0 {
			g.p.Threads[0], g.p.Threads[1], g.a, g.b = nil, nil, nil, nil
		}
		g = g.turned(tidyList[int], tidyList[[]impl.Ins], tidyList[impl.Ins], tidyList[impl.Turn])
		first := g.answer()
		g = g.turned(filled[int], filled[[]impl.Ins], filled[impl.Ins], filled[impl.Turn])
		if again := g.answer(); !isSameAnswer(again, first) {
			t.Fatalf("%s%s\nthen\n%s", g.show(), first.show(), again.show())
		}
	}
	// Of two threads without instructions the one is nil, the other one empty.
	p := impl.Prog{Init: []int{0}, Threads: [][]impl.Ins{nil, fences(1), {}, fences(1)}}
	if folded, code := impl.Folded(p, 10); folded != 3 || code != impl.OK {
		t.Errorf("%d, %s", folded, impl.CodeWord(code))
	}
}

// P1: calls at the same time answer as calls one behind the other.
func TestReduceAtTheSameTime(t *testing.T) {
	s := newSource()
	g := anyReduceGiven(s)
	for want := g.answer(); len(want.rows) < 3 || len(want.classes) < 10 || !want.isAlike || want.folded < 20; want = g.answer() {
		g = anyReduceGiven(s)
	}
	want := g.answer()
	var workers sync.WaitGroup
	for range 16 {
		workers.Go(func() {
			for range 20 {
				if got := g.answer(); !isSameAnswer(got, want) {
					t.Errorf("%s%s", g.show(), got.show())
				}
			}
		})
	}
	workers.Wait()
}

func runLists(runs [][]impl.Turn) []stretch {
	out := []stretch{stretchOf(runs)}
	for _, run := range runs {
		out = append(out, stretchOf(run))
	}
	return out
}

// P1: an answer shares no memory with what was given, and its lists none with one another.
func TestReduceAnswersAreNew(t *testing.T) {
	s := newSource()
	count := 0
	for range 400 {
		g := anyReduceGiven(s).whole()
		lists := append(progLists(g.p), stretchOf(g.a), stretchOf(g.b))
		var answers [4][][]impl.Turn
		for k := range 2 {
			answers[k], _ = impl.Normal(g.p, g.a)
			answers[2+k], _ = impl.Classes(g.p)
			lists = slices.Concat(lists, runLists(answers[k]), runLists(answers[2+k]))
		}
		count += len(lists)
		checkApart(t, lists)
		// What is written into one list, or behind it, is in no other one.
		want := g.answer()
		for _, run := range slices.Concat(answers[0], answers[2]) {
			clear(run[:cap(run)])
			run = append(run, impl.Turn{Thread: 77})
			run[0].Choice = 77
		}
		if rows, runs := answers[1], answers[3]; toldRuns(rows) != toldRuns(want.rows) || toldRuns(runs) != toldRuns(want.classes) {
			t.Fatalf("%s%s and %s", g.show(), toldRuns(rows), toldRuns(runs))
		}
		runtime.KeepAlive(answers)
	}
	if count < 10000 {
		t.Errorf("%d lists", count)
	}
}

// P1: lists within a program are bounded by the chapters alone, and what is far too long is refused at once.
func TestReduceThatIsFarTooLong(t *testing.T) {
	for _, p := range []impl.Prog{
		{Init: make([]int, millions), Threads: [][]impl.Ins{nil}},
		{Init: []int{0}, Threads: make([][]impl.Ins, millions)},
		{Init: []int{0}, Threads: [][]impl.Ins{nil, nil, nil, fences(millions)}},
		{Init: make([]int, millions), Threads: repeated(millions, fences(41))},
	} {
		checkClassesCode(t, "far too long", p, impl.ErrBad)
		checkNormalCode(t, "far too long", p, nil, impl.ErrBad)
		checkNormalCode(t, "far too long", p, make([]impl.Turn, 4096), impl.ErrBad)
		checkNormalCode(t, "far too long", p, make([]impl.Turn, 4097), impl.ErrLong)
		for _, most := range []int{0, 1, 3000, 3001} {
			checkFoldedCode(t, "far too long", p, most, impl.ErrBad)
		}
	}
}
