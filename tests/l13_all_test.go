package tests

import (
	"math"
	"reflect"
	"runtime"
	"slices"
	"sync"
	"testing"

	"loop.example/g00045/impl"
)

// isFound: what Find asks of a state, by Play's and Ready's answers alone.
func isFound(p impl.Prog, s impl.State, ready []impl.Turn, what int) bool {
	switch what {
	case impl.FdBad:
		return s.Bad
	case impl.FdHung:
		return slices.Contains(s.Hung, true)
	}
	return len(ready) == 0 && len(waitingIn(p, s)) > 0
}

func waitingIn(p impl.Prog, s impl.State) []int {
	var out []int
	for thread, at := range s.At {
		if at < len(p.Threads[thread]) && !s.Hung[thread] {
			out = append(out, thread)
		}
	}
	return out
}

// endIn: what an end tells, by Play's answer.
func endIn(p impl.Prog, s impl.State) impl.End {
	e := impl.End{Bad: s.Bad, Stuck: waitingIn(p, s), Regs: s.Regs}
	for _, row := range s.Cells {
		e.Cells = append(e.Cells, row[len(row)-1])
	}
	return e
}

// playedRow is a row of turns, and what Play and Ready tell behind it.
type playedRow struct {
	turns []impl.Turn
	state impl.State
	ready []impl.Turn
}

// rowsUpTo: all rows of at most so many turns, the shorter ones first, those as short turn by turn; nil if they are more than limit.
func rowsUpTo(p impl.Prog, most, limit int) []playedRow {
	var out []playedRow
	list := [][]impl.Turn{nil}
	for at := 0; at < len(list); at++ {
		if len(list) > limit {
			return nil
		}
		row := playedRow{turns: list[at]}
		row.state, _, _ = impl.Play(p, row.turns)
		row.ready, _ = impl.Ready(p, row.turns)
		out = append(out, row)
		if len(row.turns) == most {
			continue
		}
		for _, turn := range row.ready {
			list = append(list, append(slices.Clip(row.turns), turn))
		}
	}
	return out
}

// p14Look holds what is found of one program against what is played.
type p14Look struct {
	p               impl.Prog
	report          impl.Report
	found, searched int
}

// row: turns that were told lead to what fits, and no row that is shorter, or as short and less, does.
func (l *p14Look) row(turns []impl.Turn, fits func(r playedRow) bool) string {
	l.found++
	s, code, _ := impl.Play(l.p, turns)
	ready, _ := impl.Ready(l.p, turns)
	if code != impl.OK || !fits(playedRow{turns, s, ready}) {
		return "turns that do not lead there: " + toldTurns(turns)
	}
	rows := rowsUpTo(l.p, len(turns), 250)
	if rows == nil {
		return ""
	}
	l.searched++
	first := slices.IndexFunc(rows, fits)
	if !slices.Equal(rows[first].turns, turns) {
		return "turns " + toldTurns(turns) + ", but " + toldTurns(rows[first].turns)
	}
	return ""
}

func (l *p14Look) finds() string {
	for i, what := range allWhats {
		turns, code := impl.Find(l.p, impl.MaxStates, what)
		count := []int{l.report.Bad, l.report.Stuck, l.report.Hung}[i]
		if code == impl.ErrNone && count == 0 && len(turns) == 0 {
			continue
		}
		if code != impl.OK || count == 0 {
			return "of those found there are " + toldInts([]int{count}) + ": " + toldFound(turns, code)
		}
		if fault := l.row(turns, func(r playedRow) bool { return isFound(l.p, r.state, r.ready, what) }); fault != "" {
			return fault
		}
	}
	return ""
}

func (l *p14Look) ends() string {
	for i, e := range l.report.Ends {
		if i > 0 && slices.Compare(endOrder(l.report.Ends[i-1]), endOrder(e)) >= 0 {
			return "ends out of order, or twice: " + toldEnd(e)
		}
		turns, code := impl.FindEnd(l.p, impl.MaxStates, e)
		if code != impl.OK {
			return "an end that is not found: " + toldEnd(e)
		}
		fits := func(r playedRow) bool { return len(r.ready) == 0 && isSameEnd(endIn(l.p, r.state), e) }
		if fault := l.row(turns, fits); fault != "" {
			return fault
		}
	}
	return ""
}

func (l *p14Look) hasEnd(e impl.End) bool {
	return slices.ContainsFunc(l.report.Ends, func(other impl.End) bool { return isSameEnd(e, other) })
}

// drawn: each end that drawn turns lead to is told.
func (l *p14Look) drawn(s source) string {
	for range 5 {
		turns, m := anyTurns(s, l.p, 60)
		if !m.isEnd() {
			continue
		}
		state, _, _ := impl.Play(l.p, turns)
		if !l.hasEnd(endIn(l.p, state)) {
			return "an end that is not told, behind " + toldTurns(turns)
		}
	}
	return ""
}

// seq: the ends of the program with all steps of order seq that are not stuck are ends of it, where nothing hangs.
func (l *p14Look) seq() (int, string) {
	r, code := impl.Explore(allSeq(l.p), impl.MaxStates)
	if code != impl.OK || r.Hung > 0 || l.report.Hung > 0 {
		return 0, ""
	}
	count := 0
	for _, e := range r.Ends {
		if len(e.Stuck) > 0 {
			continue
		}
		count++
		if !l.hasEnd(e) {
			return 0, "an end with seq that is none: " + toldEnd(e)
		}
	}
	return count, ""
}

// P14, by the answers alone.
func TestWhatIsFoundIsThere(t *testing.T) {
	s := newSource()
	var all p14Look
	seqs := 0
	for range 900 {
		l := p14Look{p: fewCells(s)}
		code := impl.OK
		if l.report, code = impl.Explore(l.p, impl.MaxStates); code != impl.OK {
			continue
		}
		count, fault := l.seq()
		fault += l.finds() + l.ends() + l.drawn(s)
		if fault != "" {
			t.Fatalf("%s%s\n%s", showCells(l.p), fault, showReport(l.report))
		}
		seqs, all.found, all.searched = seqs+count, all.found+l.found, all.searched+l.searched
	}
	if all.searched < 1000 || all.found < 2000 || seqs < 500 {
		t.Errorf("%d found, %d searched for, %d ends with seq", all.found, all.searched, seqs)
	}
}

// Programs with more that happens: each end that drawn turns lead to is told, and those with seq are.
func TestEndsOfLongerPrograms(t *testing.T) {
	s := newSource()
	explored, seqs := 0, 0
	for range 400 {
		p := anyCells(s, true, false)
		l := p14Look{p: p}
		code := impl.OK
		if l.report, code = impl.Explore(p, impl.MaxStates); code != impl.OK {
			continue
		}
		explored++
		count, fault := l.seq()
		fault += l.drawn(s)
		if fault != "" {
			t.Fatalf("%s%s\n%s", showCells(p), fault, showReport(l.report))
		}
		seqs += count
	}
	if explored < 100 || seqs < 100 {
		t.Errorf("%d explored, %d ends with seq", explored, seqs)
	}
}

// exploreCounts: how often what a test must meet was met.
type exploreCounts struct {
	fuel, bad, stuck, hung, loops, ends, merged, states int
}

func (c *exploreCounts) count(r impl.Report, runsCode int) {
	for count, n := range map[*int]int{&c.bad: r.Bad, &c.stuck: r.Stuck, &c.hung: r.Hung, &c.ends: len(r.Ends) / 2, &c.loops: map[int]int{impl.ErrLoop: 1}[runsCode], &c.merged: max(0, r.Moves-r.States)} {
		*count += min(n, 1)
	}
	c.states = max(c.states, r.States)
}

// Programs of any make: each answer is the second telling's, and so it is with just as many states as there are, and with one fewer.
func TestRunsOfAnyMake(t *testing.T) {
	s := newSource()
	var c exploreCounts
	for i := range 1500 {
		p := fewCells(s)
		if i%4 == 0 {
			p = loopingCells(s)
		}
		const most = 150
		w, code := wantWorld(p, most)
		checkRunsAnswer(t, p, most, w, code)
		if code == impl.ErrFuel {
			c.fuel++
			continue
		}
		_, runsCode := w.runs()
		c.count(w.report(), runsCode)
		checkRunsAnswer(t, p, len(w), w, impl.OK)
		if len(w) > 1 {
			checkMapCode(t, showCells(p), p, len(w)-1, impl.ErrFuel)
		}
	}
	if min(c.fuel, c.bad, c.stuck, c.hung, c.ends, c.merged) < 50 || c.loops < 20 || c.states < 140 {
		t.Errorf("%+v", c)
	}
}

// exploreGiven: all that the calls of chapter 14 are given.
type exploreGiven struct {
	p          impl.Prog
	most, what int
	end        impl.End
}

func anyExploreGiven(s source) exploreGiven {
	g := exploreGiven{p: fewCells(s), most: 300, what: pick(s, allWhats)}
	if r, code := impl.Explore(g.p, g.most); code == impl.OK && len(r.Ends) > 0 {
		g.end = tidyEnd(pick(s, r.Ends))
	}
	switch s.IntN(12) {
	case 0:
		g.p = turnCells(s, g.p)
	case 1:
		g.what = pick(s, wrongWhats)
	case 2:
		g.most = pick(s, []int{0, 1, 2, 5, 3001, math.MaxInt, math.MinInt})
	case 3:
		if len(g.end.Regs) > 0 {
			g.end = pick(s, otherEnds(g.end))
		}
	}
	return g
}

// turned gives lists of their own, each as work makes it of the one that is there.
func (g exploreGiven) turned(ints func([]int) []int, rows func([][]int) [][]int, codes func([][]impl.Ins) [][]impl.Ins, code func([]impl.Ins) []impl.Ins) exploreGiven {
	g.p = impl.Prog{Init: ints(g.p.Init), Threads: codes(g.p.Threads)}
	for i := range g.p.Threads {
		g.p.Threads[i] = code(g.p.Threads[i])
	}
	g.end = impl.End{Bad: g.end.Bad, Stuck: ints(g.end.Stuck), Regs: rows(g.end.Regs), Cells: ints(g.end.Cells)}
	for i := range g.end.Regs {
		g.end.Regs[i] = ints(g.end.Regs[i])
	}
	return g
}

func (g exploreGiven) roomy() exploreGiven {
	return g.turned(
		func(list []int) []int { return roomy(list, 77) },
		func(list [][]int) [][]int { return roomy(list, []int{77}) },
		func(list [][]impl.Ins) [][]impl.Ins { return roomy(list, fences(2)) },
		func(list []impl.Ins) []impl.Ins { return roomy(list, impl.Ins{Op: 77}) })
}

func (g exploreGiven) whole() exploreGiven {
	return g.turned(whole[int], whole[[]int], whole[[]impl.Ins], whole[impl.Ins])
}

func (g exploreGiven) answer() exploreAnswer {
	return answerOfRuns(g.p, g.most, []int{g.what}, []impl.End{g.end})
}

// P1: what is given stays as it was, behind its end too; answers do not hang on what was called ahead.
func TestRunsDoNotChangeWhatIsGiven(t *testing.T) {
	s := newSource()
	var all, before []exploreGiven
	var first []exploreAnswer
	for range 500 {
		g := anyExploreGiven(s).roomy()
		all, before, first = append(all, g), append(before, g.whole()), append(first, g.answer())
	}
	for i := len(all) - 1; i >= 0; i-- {
		if again := all[i].answer(); !reflect.DeepEqual(again, first[i]) {
			t.Fatalf("%s%s\nthen\n%s", showCells(all[i].p), showAnswer(first[i]), showAnswer(again))
		}
	}
	for i, g := range all {
		if !reflect.DeepEqual(g.whole(), before[i]) {
			t.Fatalf("%s%s: was changed", showCells(g.p), toldEnd(g.end))
		}
	}
}

// P1: an empty list and nil are the same.
func TestRunsOfEmptyLists(t *testing.T) {
	s := newSource()
	for range 300 {
		g := anyExploreGiven(s)
		if s.IntN(4) == 0 {
			g.p.Init = nil
		}
		if s.IntN(4) == 0 {
			g.end.Regs = nil
		}
		g = g.turned(tidyList[int], tidyList[[]int], tidyList[[]impl.Ins], tidyList[impl.Ins])
		first := g.answer()
		g = g.turned(filled[int], filled[[]int], filled[[]impl.Ins], filled[impl.Ins])
		if again := g.answer(); !reflect.DeepEqual(again, first) {
			t.Fatalf("%s%s\nthen\n%s", showCells(g.p), showAnswer(first), showAnswer(again))
		}
	}
}

// P1: calls at the same time answer as calls one behind the other.
func TestRunsAtTheSameTime(t *testing.T) {
	s := newSource()
	g := anyExploreGiven(s)
	for g.answer().code != impl.OK || len(g.answer().report.Ends) < 3 || g.answer().report.States < 60 {
		g = anyExploreGiven(s)
	}
	want := g.answer()
	var workers sync.WaitGroup
	for range 16 {
		workers.Go(func() {
			for range 20 {
				if got := g.answer(); !reflect.DeepEqual(got, want) {
					t.Errorf("%s%s", showCells(g.p), showAnswer(got))
				}
			}
		})
	}
	workers.Wait()
}

func endLists(ends ...impl.End) []stretch {
	var out []stretch
	for _, e := range ends {
		out = append(out, stretchOf(e.Stuck), stretchOf(e.Regs), stretchOf(e.Cells))
		for _, row := range e.Regs {
			out = append(out, stretchOf(row))
		}
	}
	return out
}

// P1: an answer shares no memory with what was given, and its lists none with one another.
func TestRunsAnswersAreNew(t *testing.T) {
	s := newSource()
	count := 0
	for range 400 {
		g := anyExploreGiven(s).whole()
		lists := slices.Concat(progLists(g.p), endLists(g.end))
		var reports [2]impl.Report
		var rows [4][]impl.Turn
		for k := range 2 {
			reports[k], _ = impl.Explore(g.p, g.most)
			rows[k], _ = impl.Find(g.p, g.most, g.what)
			rows[2+k], _ = impl.FindEnd(g.p, g.most, g.end)
			lists = slices.Concat(lists, []stretch{stretchOf(reports[k].Ends), stretchOf(rows[k]), stretchOf(rows[2+k])}, endLists(reports[k].Ends...))
		}
		count += len(lists)
		checkApart(t, lists)
		runtime.KeepAlive(reports)
		runtime.KeepAlive(rows)
	}
	if count < 10000 {
		t.Errorf("%d lists", count)
	}
}

// P1: lists within a program are bounded by the chapters alone, and what is far too long is refused at once.
func TestRunsThatAreFarTooLong(t *testing.T) {
	for _, p := range []impl.Prog{
		{Init: make([]int, millions), Threads: [][]impl.Ins{nil}},
		{Init: []int{0}, Threads: make([][]impl.Ins, millions)},
		{Init: []int{0}, Threads: [][]impl.Ins{nil, nil, nil, fences(millions)}},
		{Init: make([]int, millions), Threads: repeated(millions, fences(41))},
	} {
		for _, most := range []int{0, 1, 3000, 3001} {
			checkMapCode(t, "far too long", p, most, impl.ErrBad)
		}
	}
}
