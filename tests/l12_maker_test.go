package tests

import (
	"reflect"
	"slices"
	"strconv"
	"strings"
	"testing"

	"loop.example/g00045/impl"
)

// cellsOf reads a right program whose lines have semicolons between them.
func cellsOf(t *testing.T, text string) impl.Prog {
	t.Helper()
	p, code, line := impl.ReadProg(strings.ReplaceAll(text, ";", "\n"))
	if code != impl.OK {
		t.Fatalf("%s: %s at line %d", text, impl.CodeWord(code), line)
	}
	return p
}

// turnsOf reads turns: 0 is thread 0's with Choice 0, 1:2 thread 1's with Choice 2, and 0*9 stands for nine of thread 0's.
func turnsOf(t *testing.T, text string) []impl.Turn {
	t.Helper()
	var out []impl.Turn
	for _, word := range strings.Fields(text) {
		word, count, isMany := strings.Cut(word, "*")
		thread, choice, isChosen := strings.Cut(word, ":")
		turn := impl.Turn{Thread: numberOf(t, thread)}
		if isChosen {
			turn.Choice = numberOf(t, choice)
		}
		times := 1
		if isMany {
			times = numberOf(t, count)
		}
		out = append(out, repeated(times, turn)...)
	}
	return out
}

func showCells(p impl.Prog) string {
	if text, code := wantProgText(p); code == impl.OK {
		return text
	}
	out := "cells " + toldInts(p.Init[:min(len(p.Init), 20)]) + "\n"
	for _, code := range p.Threads[:min(len(p.Threads), 10)] {
		out += "thread\n"
		for _, x := range code[:min(len(code), 50)] {
			out += "  " + toldRawIns(x) + "\n"
		}
	}
	return out
}

func toldRawIns(x impl.Ins) string {
	return "{" + toldInts([]int{x.Op, x.Cell, x.Reg, x.A.Reg, x.A.Num, x.B.Reg, x.B.Num, x.Order, x.Cond, x.To}) + "}"
}

func toldInts(list []int) string {
	var words []string
	for _, n := range list {
		words = append(words, strconv.Itoa(n))
	}
	return strings.Join(words, " ")
}

func toldTurns(turns []impl.Turn) string {
	var words []string
	for _, turn := range turns[:min(len(turns), 300)] {
		words = append(words, strconv.Itoa(turn.Thread)+":"+strconv.Itoa(turn.Choice))
	}
	return strings.Join(words, " ")
}

// toldRows: lists with slashes between them.
func toldRows(rows [][]int) string {
	var words []string
	for _, row := range rows {
		words = append(words, toldInts(row))
	}
	return strings.Join(words, "/")
}

// toldRegs leaves out the noughts at the end of each row.
func toldRegs(rows [][]int) string {
	var out [][]int
	for _, row := range rows {
		for len(row) > 0 && row[len(row)-1] == 0 {
			row = row[:len(row)-1]
		}
		out = append(out, row)
	}
	return toldRows(out)
}

// toldCalls: 0:1(7)=3@0-2 is thread 0's of operation 1 with the argument 7, which ended with 3; it began at 0, and ended at 2. 0:1(7)@0 has not ended.
func toldCalls(calls []impl.Call) string {
	var words []string
	for _, c := range calls {
		word := strconv.Itoa(c.Thread) + ":" + strconv.Itoa(c.Op) + "(" + strconv.Itoa(c.Arg) + ")"
		if c.To != -1 || c.Ret != 0 {
			word += "=" + strconv.Itoa(c.Ret)
		}
		word += "@" + strconv.Itoa(c.From)
		if c.To != -1 {
			word += "-" + strconv.Itoa(c.To)
		}
		words = append(words, word)
	}
	return strings.Join(words, " ")
}

// toldMemory: the parts of a state by their names.
func toldMemory(s impl.State) map[string]string {
	var hung []int
	for thread, isHung := range s.Hung {
		if isHung {
			hung = append(hung, thread)
		}
	}
	return map[string]string{
		"at": toldInts(s.At), "regs": toldRegs(s.Regs), "cells": toldRows(s.Cells), "seen": toldRows(s.Seen),
		"hung": toldInts(hung), "bad": strconv.FormatBool(s.Bad), "calls": toldCalls(s.Calls),
	}
}

func showMemory(s impl.State) string {
	parts := toldMemory(s)
	out := ""
	for _, name := range []string{"at", "regs", "cells", "seen", "hung", "bad", "calls"} {
		out += name + " " + parts[name] + "; "
	}
	return out
}

func tidyRows(rows [][]int) [][]int {
	var out [][]int
	for _, row := range rows {
		out = append(out, tidyList(row))
	}
	return out
}

func tidyMemory(s impl.State) impl.State {
	return impl.State{At: tidyList(s.At), Regs: tidyRows(s.Regs), Cells: tidyRows(s.Cells), Seen: tidyRows(s.Seen), Hung: tidyList(s.Hung), Bad: s.Bad, Calls: tidyList(s.Calls)}
}

func tidyProg(p impl.Prog) impl.Prog {
	out := impl.Prog{Init: tidyList(p.Init)}
	for _, code := range p.Threads {
		out.Threads = append(out.Threads, tidyList(code))
	}
	return out
}

// cellAnswer: what the calls of chapter 13 answer of a program and of turns.
type cellAnswer struct {
	isRight    bool
	text       string
	textCode   int
	state      impl.State
	code, turn int
	ready      []impl.Turn
	readyCode  int
}

func answerOfCells(p impl.Prog, turns []impl.Turn) cellAnswer {
	a := cellAnswer{isRight: impl.ProgOK(p)}
	a.text, a.textCode = impl.ProgText(p)
	a.state, a.code, a.turn = impl.Play(p, turns)
	a.ready, a.readyCode = impl.Ready(p, turns)
	a.state, a.ready = tidyMemory(a.state), tidyList(a.ready)
	return a
}

// wantOfCells: the second telling's answer; m is what wantPlayed makes of it.
func wantOfCells(p impl.Prog, m *oneMemory, code, turn int) cellAnswer {
	a := cellAnswer{isRight: isOneProg(p), code: code, turn: turn, readyCode: code}
	a.text, a.textCode = wantProgText(p)
	if code == impl.OK {
		a.state, a.ready = tidyMemory(m.state()), tidyList(m.ready())
	}
	return a
}

// checkSameCells: all calls answer as the second telling does.
func checkSameCells(t *testing.T, p impl.Prog, turns []impl.Turn) {
	t.Helper()
	m, code, turn := wantPlayed(p, turns)
	checkCellAnswer(t, p, turns, wantOfCells(p, m, code, turn))
}

func checkCellAnswer(t *testing.T, p impl.Prog, turns []impl.Turn, want cellAnswer) {
	t.Helper()
	if got := answerOfCells(p, turns); !reflect.DeepEqual(got, want) {
		t.Fatalf("%s%s\n%s at %d: %sready %s, %s, not\n%s at %d: %sready %s, %s", showCells(p), toldTurns(turns),
			impl.CodeWord(got.code), got.turn, showMemory(got.state), toldTurns(got.ready), impl.CodeWord(got.readyCode),
			impl.CodeWord(want.code), want.turn, showMemory(want.state), toldTurns(want.ready), impl.CodeWord(want.readyCode))
	}
}

// checkCells: behind these turns each named part is as told, and all is as the second telling has it. Parts have semicolons between them: at 1 0; regs 3/; cells 0 5/1; seen 1 0/0 0; hung 2; bad true; calls 0:1(7)@0; ready 0:0 1:1.
func checkCells(t *testing.T, prog, turns, want string) {
	t.Helper()
	p, list := cellsOf(t, prog), turnsOf(t, turns)
	s, code, _ := impl.Play(p, list)
	ready, _ := impl.Ready(p, list)
	parts := toldMemory(s)
	parts["ready"] = toldTurns(ready)
	if code != impl.OK {
		t.Fatalf("%s\n%s: %s", prog, turns, impl.CodeWord(code))
	}
	for _, part := range strings.Split(want, ";") {
		name, told, _ := strings.Cut(strings.TrimSpace(part), " ")
		if got, isPart := parts[name]; !isPart || got != told {
			t.Errorf("%s\n%s\n%s %s, not %s", prog, turns, name, got, told)
		}
	}
	checkSameCells(t, p, list)
}

// checkNoTurn: the last of these turns cannot be, those ahead can.
func checkNoTurn(t *testing.T, prog, turns string) {
	t.Helper()
	p, list := cellsOf(t, prog), turnsOf(t, turns)
	last := len(list) - 1
	if s, code, at := impl.Play(p, list); code != impl.ErrState || at != last || !isNoState(s) {
		t.Errorf("%s\n%s\n%s at %d: %s", prog, turns, impl.CodeWord(code), at, showMemory(s))
	}
	if ready, code := impl.Ready(p, list); code != impl.ErrState || len(ready) > 0 {
		t.Errorf("%s\n%s\nReady: %s %s", prog, turns, impl.CodeWord(code), toldTurns(ready))
	}
	checkSameCells(t, p, list)
	checkSameCells(t, p, list[:last])
}

func isNoState(s impl.State) bool {
	return len(s.At)+len(s.Regs)+len(s.Cells)+len(s.Seen)+len(s.Hung)+len(s.Calls) == 0 && !s.Bad
}

// cellMaker makes right programs. One instruction in quiets is quiet (none if it is 0). One step on memory in seqs is of order seq or a fence: each, if it is 1.
type cellMaker struct {
	source
	cells, quiets, seqs int
}

var cellValues = []int{0, 0, 0, 1, 1, 1, 2, 2, 3, -1, -2, 7, 10, 99, -999999999999999999, 999999999999999999, 123456789012345678}

func (m cellMaker) val() impl.Val {
	if m.IntN(3) == 0 {
		return impl.Val{Reg: 1 + m.IntN(6)}
	}
	return impl.Val{Num: pick(m.source, cellValues)}
}

func (m cellMaker) reg() int {
	if m.IntN(2) == 0 {
		return 1 + m.IntN(2)
	}
	return 1 + m.IntN(6)
}

// ins: the instruction number at of so many.
func (m cellMaker) ins(at, code int) impl.Ins {
	isSeq := m.IntN(m.seqs) == 0
	x := impl.Ins{Op: pick(m.source, []int{1, 1, 1, 1, 2, 2, 2, 2, 3, 4, 5, 6})}
	if isSeq {
		x.Op = 1 + m.IntN(7)
	}
	if m.quiets > 0 && m.IntN(m.quiets) == 0 {
		x.Op = 8 + m.IntN(6)
	}
	for _, field := range strings.Fields(cellFields[x.Op]) {
		switch field {
		case "Reg":
			x.Reg = m.reg()
		case "Cell":
			x.Cell = m.IntN(m.cells)
		case "A":
			x.A = m.val()
		case "B":
			x.B = m.val()
		case "Order":
			orders := opOrders(x.Op)
			x.Order = pick(m.source, orders[:len(orders)-1])
			if isSeq {
				x.Order = impl.OrSeq
			}
		case "Cond":
			x.Cond = 1 + m.IntN(4)
		case "To":
			x.To = m.to(x.Op, at, code)
		}
	}
	return x
}

// to: jumps go forward for the most part, few go back.
func (m cellMaker) to(op, at, code int) int {
	switch {
	case op == impl.CoCall:
		return pick(m.source, []int{0, 1, 2, 98, 99})
	case m.IntN(4) == 0:
		return m.IntN(code + 1)
	}
	return min(code, at+1+m.IntN(3))
}

func (m cellMaker) prog(threads, most int) impl.Prog {
	var p impl.Prog
	for range m.cells {
		p.Init = append(p.Init, pick(m.source, cellValues))
	}
	for range threads {
		code := make([]impl.Ins, m.IntN(most+1))
		for at := range code {
			code[at] = m.ins(at, len(code))
		}
		p.Threads = append(p.Threads, code)
	}
	return p
}

// anyCells: a right program; of small ones the threads have few instructions and few cells.
func anyCells(s source, isSmall, isSeq bool) impl.Prog {
	m := cellMaker{s, 1 + s.IntN(8), 1 + s.IntN(5), pick(s, []int{2, 4, 10, 100})}
	if isSeq {
		m.seqs = 1
	}
	if isSmall {
		m.cells = 1 + s.IntN(3)
		return m.prog(1+s.IntN(4), 8)
	}
	return m.prog(1+s.IntN(4), impl.MaxCode)
}

// anyTurns: at most so many turns that can be, and what the second telling has behind them. Half of the reads are of the oldest message that can be read.
func anyTurns(s source, p impl.Prog, most int) ([]impl.Turn, *oneMemory) {
	m := oneMemoryOf(p)
	var turns []impl.Turn
	for range most {
		ready := m.ready()
		if len(ready) == 0 {
			break
		}
		turn := pick(s, ready)
		if s.IntN(2) == 0 {
			turn.Choice = len(m.reads(m.workers[turn.Thread])) - 1
		}
		turns = append(turns, turn)
		m.take(turn)
	}
	return turns, m
}

// wildTurn: of any make; few can be.
func wildTurn(s source) impl.Turn {
	numbers := slices.Concat(anyNumbers, []int{0, 0, 1, 1, 2, 3, 49, 50})
	return impl.Turn{Thread: pick(s, numbers), Choice: pick(s, numbers)}
}
