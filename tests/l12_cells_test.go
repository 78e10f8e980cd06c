package tests

import (
	"reflect"
	"runtime"
	"slices"
	"sync"
	"testing"

	"loop.example/g00045/impl"
)

// cellLook holds the states behind each turn against each other, by the answers alone.
type cellLook struct {
	p            impl.Prog
	before       impl.State
	writes, olds int
	reads        int
}

// isBegun: a is the beginning of b.
func isBegun[T comparable](a, b []T) bool { return len(a) <= len(b) && slices.Equal(a, b[:len(a)]) }

// messages: none is lost or turned, at most one comes, and that one where the instruction writes.
func (l *cellLook) messages(x impl.Ins, s impl.State) string {
	count := 0
	for cell, values := range s.Cells {
		old := l.before.Cells[cell]
		if !isBegun(old, values) {
			return "a message is lost or turned"
		}
		if len(values) > len(old) && (cell != x.Cell || !slices.Contains([]int{impl.CoStore, impl.CoSwap, impl.CoAdd, impl.CoCas}, x.Op)) {
			return "a message comes where nothing is written"
		}
		count += len(values) - len(old)
	}
	isWrite := slices.Contains([]int{impl.CoStore, impl.CoSwap, impl.CoAdd}, x.Op)
	if count > 1 || isWrite && count == 0 {
		return "too many messages or none"
	}
	l.writes += count
	return ""
}

// views: none goes back, each is the number of a message, and the others' stay.
func (l *cellLook) views(thread int, s impl.State) string {
	for number, view := range s.Seen {
		for cell, seen := range view {
			switch old := l.before.Seen[number][cell]; {
			case seen < old:
				return "a view goes back"
			case seen >= len(s.Cells[cell]):
				return "a view of no message"
			case seen != old && number != thread:
				return "a view of another thread is turned"
			}
		}
	}
	return ""
}

// others: what is not the thread's own stays as it was; what was bad stays so, and calls stay but for those that end.
func (l *cellLook) others(thread int, s impl.State) string {
	for number := range s.At {
		isSame := s.At[number] == l.before.At[number] && slices.Equal(s.Regs[number], l.before.Regs[number]) && s.Hung[number] == l.before.Hung[number]
		if number != thread && !isSame {
			return "another thread is turned"
		}
	}
	if l.before.Bad && !s.Bad {
		return "bad no more"
	}
	for i, c := range l.before.Calls {
		now := s.Calls[i]
		if c.To == -1 && now.Thread == thread {
			now.To, now.Ret = -1, 0
		}
		if now != c {
			return "a call is turned"
		}
	}
	return ""
}

// shape: how long all lists are.
func (l *cellLook) shape(s impl.State) string {
	threads := len(l.p.Threads)
	if len(s.At) != threads || len(s.Regs) != threads || len(s.Seen) != threads || len(s.Hung) != threads || len(s.Cells) != len(l.p.Init) {
		return "lists of another length"
	}
	for number, code := range l.p.Threads {
		if len(s.Regs[number]) != 6 || len(s.Seen[number]) != len(l.p.Init) || s.At[number] < 0 || s.At[number] > len(code) {
			return "a thread's lists of another length"
		}
	}
	for cell, values := range s.Cells {
		if len(values) < 1 || len(values) > 50 || values[0] != l.p.Init[cell] {
			return "messages that cannot be"
		}
	}
	return ""
}

// seqRead: with all steps of order seq each read reads the last message. What was read stands in the register if nothing quiet was done behind it.
func (l *cellLook) seqRead(turn impl.Turn, x impl.Ins, s impl.State) string {
	if turn.Choice != 0 {
		return "an old message is read"
	}
	isRead := slices.Contains([]int{impl.CoLoad, impl.CoSwap, impl.CoAdd, impl.CoCas, impl.CoAwait}, x.Op)
	at := l.before.At[turn.Thread]
	if !isRead || s.At[turn.Thread] != at+1 {
		return ""
	}
	values := l.before.Cells[x.Cell]
	last, got := values[len(values)-1], s.Regs[turn.Thread][x.Reg-1]
	if x.Op == impl.CoCas {
		last = map[bool]int{true: 1}[last == cellValue(x.A, l.before.Regs[turn.Thread])]
	}
	if got != last {
		return "not the last message is read"
	}
	if seen := s.Seen[turn.Thread][x.Cell]; seen != len(s.Cells[x.Cell])-1 {
		return "not the last message is seen"
	}
	l.reads++
	return ""
}

func cellValue(v impl.Val, regs []int) int {
	if v.Reg == 0 {
		return v.Num
	}
	return regs[v.Reg-1]
}

// checkP13: of a right program and turns that can be.
func checkP13(t *testing.T, p impl.Prog, turns []impl.Turn, isSeq bool) *cellLook {
	t.Helper()
	l := &cellLook{p: p}
	l.before, _, _ = impl.Play(p, nil)
	fault := l.shape(l.before)
	for i, turn := range turns {
		s, code, _ := impl.Play(p, turns[:i+1])
		at := l.before.At[turn.Thread]
		if code != impl.OK || at == len(p.Threads[turn.Thread]) {
			t.Fatalf("%s%s: %s", showCells(p), toldTurns(turns[:i+1]), impl.CodeWord(code))
		}
		x := p.Threads[turn.Thread][at]
		fault = l.shape(s) + l.messages(x, s) + l.views(turn.Thread, s) + l.others(turn.Thread, s)
		if isSeq {
			fault += l.seqRead(turn, x, s)
		}
		if fault != "" {
			t.Fatalf("%s%s: %s\n%s\n%s", showCells(p), toldTurns(turns[:i+1]), fault, showMemory(l.before), showMemory(s))
		}
		if turn.Choice > 0 {
			l.olds++
		}
		l.before = s
	}
	if fault != "" {
		t.Fatalf("%s: %s", showCells(p), fault)
	}
	return l
}

// P13: from turn to turn no message is lost, and no view goes back.
func TestCellsFromTurnToTurn(t *testing.T) {
	s := newSource()
	writes, olds := 0, 0
	for i := range 2500 {
		p := anyCells(s, i%4 != 0, false)
		turns, _ := anyTurns(s, p, 30)
		l := checkP13(t, p, turns, false)
		writes, olds = writes+l.writes, olds+l.olds
	}
	if min(writes, olds) < 1000 {
		t.Errorf("%d writes, %d old messages read", writes, olds)
	}
}

// P13: with all steps of order seq each read reads the last message.
func TestCellsAllSeq(t *testing.T) {
	s := newSource()
	reads := 0
	for i := range 1500 {
		p := anyCells(s, i%4 != 0, true)
		turns, m := anyTurns(s, p, 30)
		reads += checkP13(t, p, turns, true).reads
		for _, turn := range m.ready() {
			if turn.Choice != 0 {
				t.Fatalf("%s%s: %v can come next", showCells(p), toldTurns(turns), turn)
			}
		}
	}
	if reads < 2000 {
		t.Errorf("%d reads", reads)
	}
}

// cellCounts: how often what a test must meet was met.
type cellCounts struct {
	turns, olds, hung, bad, full, ended, open, waits, chosen, stuck int
	ops                                                             [14]int
	orders                                                          [6]int
}

func (c *cellCounts) count(p impl.Prog, turns []impl.Turn, m *oneMemory) {
	c.turns += len(turns)
	again := oneMemoryOf(p)
	for _, turn := range turns {
		x := p.Threads[turn.Thread][again.workers[turn.Thread].at]
		c.ops[x.Op]++
		c.orders[x.Order]++
		if turn.Choice > 0 {
			c.olds++
		}
		if turn.Choice > 0 && x.Op == impl.CoAwait {
			c.chosen++
		}
		again.take(turn)
	}
	for _, w := range m.workers {
		if w.hung {
			c.hung++
		}
		if w.isAt("await") && len(m.reads(w)) == 0 {
			c.waits++
		}
	}
	for _, row := range m.rows {
		if len(row) == 50 {
			c.full++
		}
	}
	for _, call := range m.calls {
		if call.To == -1 {
			c.open++
		} else {
			c.ended++
		}
	}
	if m.bad {
		c.bad++
	}
	if len(m.ready()) == 0 {
		c.stuck++
	}
}

// Programs and turns of any make: each answer is the second telling's.
func TestCellsOfAnyMake(t *testing.T) {
	s := newSource()
	var c cellCounts
	for i := range 6000 {
		p := anyCells(s, i%3 != 0, false)
		turns, m := anyTurns(s, p, s.IntN(60))
		c.count(p, turns, m)
		checkCellAnswer(t, p, turns, wantOfCells(p, m, impl.OK, 0))
		turns = append(turns, wildTurn(s))
		checkSameCells(t, p, turns)
		if len(turns) > 1 {
			turns[s.IntN(len(turns))] = wildTurn(s)
			checkSameCells(t, p, turns)
		}
	}
	if min(c.olds, c.hung, c.bad, c.ended, c.open, c.waits, c.chosen, c.stuck) < 100 || slices.Min(c.ops[1:8]) < 1000 || slices.Min(c.orders[1:]) < 500 {
		t.Errorf("%+v", c)
	}
}

// loopingCells: threads that do their steps again and again.
func loopingCells(s source) impl.Prog {
	m := cellMaker{source: s, cells: 1 + s.IntN(2), seqs: pick(s, []int{3, 10, 100})}
	p := m.prog(1+s.IntN(4), 5)
	for thread, code := range p.Threads {
		p.Threads[thread] = append(code, impl.Ins{Op: impl.CoJump, Cond: impl.CnEq})
	}
	return p
}

// As many turns as there may be, and cells with as many messages.
func TestLongRunsOfCells(t *testing.T) {
	s := newSource()
	var c cellCounts
	longest := 0
	for range 250 {
		p := loopingCells(s)
		turns, m := anyTurns(s, p, 200)
		longest = max(longest, len(turns))
		c.count(p, turns, m)
		checkCellAnswer(t, p, turns, wantOfCells(p, m, impl.OK, 0))
		for _, count := range []int{len(turns) / 2, len(turns) * 3 / 4} {
			checkSameCells(t, p, turns[:count])
		}
	}
	if c.full < 50 || c.stuck < 20 || longest != 200 {
		t.Errorf("%+v, at most %d turns", c, longest)
	}
}

// Programs and turns with something turned: right or not, each answer is the second telling's.
func TestTurnedCells(t *testing.T) {
	s := newSource()
	codes := map[int]int{}
	for range 4000 {
		p := anyCells(s, true, false)
		turns, _ := anyTurns(s, p, 12)
		for range s.IntN(3) {
			p = turnCells(s, p)
		}
		if s.IntN(2) == 0 {
			turns = turnedList(s, turns, []impl.Turn{{}, {Thread: 1}, {Choice: 1}, wildTurn(s)})
		}
		m, code, at := wantPlayed(p, turns)
		checkCellAnswer(t, p, turns, wantOfCells(p, m, code, at))
		codes[code]++
	}
	if min(codes[impl.OK], codes[impl.ErrBad], codes[impl.ErrState]) < 300 || len(codes) != 3 {
		t.Errorf("codes %v", codes)
	}
}

// cellGiven: all that the calls of chapter 13 are given.
type cellGiven struct {
	p     impl.Prog
	turns []impl.Turn
	text  string
}

func anyCellGiven(s source) cellGiven {
	p := anyCells(s, s.IntN(3) != 0, false)
	turns, _ := anyTurns(s, p, 40)
	text, _ := impl.ProgText(p)
	switch s.IntN(12) {
	case 0:
		p = turnCells(s, p)
	case 1:
		turns = append(turns, wildTurn(s))
	case 2:
		text = turnText(s, text)
	}
	return cellGiven{p, turns, text}
}

// turned gives lists of their own, each as work makes it of the one that is there.
func (g cellGiven) turned(ints func([]int) []int, codes func([][]impl.Ins) [][]impl.Ins, code func([]impl.Ins) []impl.Ins, turns func([]impl.Turn) []impl.Turn) cellGiven {
	g.p = impl.Prog{Init: ints(g.p.Init), Threads: codes(g.p.Threads)}
	for i := range g.p.Threads {
		g.p.Threads[i] = code(g.p.Threads[i])
	}
	g.turns = turns(g.turns)
	return g
}

func (g cellGiven) roomy() cellGiven {
	return g.turned(
		func(list []int) []int { return roomy(list, 77) },
		func(list [][]impl.Ins) [][]impl.Ins { return roomy(list, fences(2)) },
		func(list []impl.Ins) []impl.Ins { return roomy(list, impl.Ins{Op: 77}) },
		func(list []impl.Turn) []impl.Turn { return roomy(list, impl.Turn{Thread: 77, Choice: 77}) })
}

func (g cellGiven) whole() cellGiven {
	return g.turned(whole[int], whole[[]impl.Ins], whole[impl.Ins], whole[impl.Turn])
}

// cellAnswers: what the calls answer of it, as it was answered.
type cellAnswers struct {
	all        cellAnswer
	read       impl.Prog
	code, line int
}

func (g cellGiven) answer() cellAnswers {
	a := cellAnswers{all: answerOfCells(g.p, g.turns)}
	a.read, a.code, a.line = impl.ReadProg(g.text)
	a.read = tidyProg(a.read)
	return a
}

// P1: what is given stays as it was, behind its end too; answers do not hang on what was called ahead.
func TestCellsDoNotChangeWhatIsGiven(t *testing.T) {
	s := newSource()
	var all, before []cellGiven
	var first []cellAnswers
	for range 600 {
		g := anyCellGiven(s).roomy()
		all, before, first = append(all, g), append(before, g.whole()), append(first, g.answer())
	}
	for i := len(all) - 1; i >= 0; i-- {
		if again := all[i].answer(); !reflect.DeepEqual(again, first[i]) {
			t.Fatalf("%s%s: %v, then %v", showCells(all[i].p), toldTurns(all[i].turns), first[i], again)
		}
	}
	for i, g := range all {
		if !reflect.DeepEqual(g.whole(), before[i]) {
			t.Fatalf("%s%s: was changed", showCells(g.p), toldTurns(g.turns))
		}
	}
}

// P1: an empty list and nil are the same.
func TestCellsOfEmptyLists(t *testing.T) {
	s := newSource()
	for range 300 {
		g := anyCellGiven(s)
		g.turns = nil
		if s.IntN(3) == 0 {
			g.p.Init = nil
		}
		if s.IntN(3) == 0 {
			g.p.Threads = nil
		}
		g = g.turned(tidyList[int], tidyList[[]impl.Ins], tidyList[impl.Ins], tidyList[impl.Turn])
		first := g.answer()
		g = g.turned(filled[int], filled[[]impl.Ins], filled[impl.Ins], filled[impl.Turn])
		if again := g.answer(); !reflect.DeepEqual(again, first) {
			t.Fatalf("%s: %v, then %v", showCells(g.p), first, again)
		}
	}
}

// filled: a list of its own that is not nil.
func filled[T any](list []T) []T { return append([]T{}, list...) }

// P1: calls at the same time answer as calls one behind the other.
func TestCellsAtTheSameTime(t *testing.T) {
	s := newSource()
	g := anyCellGiven(s)
	for len(g.turns) < 20 || len(g.answer().all.ready) < 3 || g.answer().code != impl.OK {
		g = anyCellGiven(s)
	}
	want := g.answer()
	var workers sync.WaitGroup
	for range 16 {
		workers.Go(func() {
			for range 50 {
				if got := g.answer(); !reflect.DeepEqual(got, want) {
					t.Errorf("%s%s: %v", showCells(g.p), toldTurns(g.turns), got)
				}
			}
		})
	}
	workers.Wait()
}

func progLists(p impl.Prog) []stretch {
	out := []stretch{stretchOf(p.Init), stretchOf(p.Threads)}
	for _, code := range p.Threads {
		out = append(out, stretchOf(code))
	}
	return out
}

func memoryLists(s impl.State) []stretch {
	out := []stretch{stretchOf(s.At), stretchOf(s.Regs), stretchOf(s.Cells), stretchOf(s.Seen), stretchOf(s.Hung), stretchOf(s.Calls)}
	for _, rows := range [][][]int{s.Regs, s.Cells, s.Seen} {
		for _, row := range rows {
			out = append(out, stretchOf(row))
		}
	}
	return out
}

// P1: an answer shares no memory with what was given, and its lists none with one another.
func TestCellAnswersAreNew(t *testing.T) {
	s := newSource()
	count := 0
	for range 400 {
		g := anyCellGiven(s).whole()
		lists := append(progLists(g.p), stretchOf(g.turns))
		var states [2]impl.State
		var ready [2][]impl.Turn
		var read [2]impl.Prog
		var texts [2]string
		for k := range 2 {
			states[k], _, _ = impl.Play(g.p, g.turns)
			ready[k], _ = impl.Ready(g.p, g.turns)
			read[k], _, _ = impl.ReadProg(g.text)
			texts[k], _ = impl.ProgText(g.p)
			lists = slices.Concat(lists, memoryLists(states[k]), progLists(read[k]), []stretch{stretchOf(ready[k])})
		}
		count += len(lists)
		checkApart(t, lists)
		checkNewTexts(t, texts[:1], texts[1:])
		runtime.KeepAlive(states)
		runtime.KeepAlive(ready)
		runtime.KeepAlive(read)
	}
	if count < 10000 {
		t.Errorf("%d lists", count)
	}
}

// P1: lists within a program are bounded by the chapter alone, and what is far too long is refused at once.
func TestCellsThatAreFarTooLong(t *testing.T) {
	for _, p := range []impl.Prog{
		{Init: make([]int, millions), Threads: [][]impl.Ins{nil}},
		{Init: []int{0}, Threads: make([][]impl.Ins, millions)},
		{Init: []int{0}, Threads: [][]impl.Ins{make([]impl.Ins, millions)}},
		{Init: []int{0}, Threads: [][]impl.Ins{nil, nil, nil, fences(millions)}},
		{Init: make([]int, millions), Threads: repeated(millions, fences(41))},
	} {
		if impl.ProgOK(p) {
			t.Error("ProgOK")
		}
		checkPlayCode(t, "far too long", p, nil, impl.ErrBad, 0)
		checkPlayCode(t, "far too long", p, make([]impl.Turn, 4096), impl.ErrBad, 0)
		checkPlayCode(t, "far too long", p, make([]impl.Turn, 4097), impl.ErrLong, 0)
		if text, code := impl.ProgText(p); text != "" || code != impl.ErrBad {
			t.Error(impl.CodeWord(code))
		}
	}
}
