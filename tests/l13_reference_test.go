package tests

import (
	"cmp"
	"maps"
	"math/big"
	"slices"
	"strconv"
	"strings"

	"loop.example/g00045/impl"
)

// The second telling of chapter 14: a state is a text of the parts that the chapter names, all states are come to layer by layer, and the rows of a layer are put in order ahead of their being taken.

// sightNames: the parts in which states that are one are alike. In told are the views of the messages.
var sightNames = []string{"at", "regs", "cells", "told", "seen", "common", "hung", "bad"}

// copied: a memory of its own. Messages are shared: they stay as they are once they are there.
func (m *oneMemory) copied() *oneMemory {
	out := *m
	out.rows, out.workers, out.calls = nil, nil, slices.Clone(m.calls)
	for _, row := range m.rows {
		out.rows = append(out.rows, slices.Clone(row))
	}
	for _, w := range m.workers {
		own := *w
		own.regs = maps.Clone(w.regs)
		out.workers = append(out.workers, &own)
	}
	return &out
}

func (m *oneMemory) viewOf(known marks) []int {
	var out []int
	for cell := range m.rows {
		out = append(out, known.newest(cell))
	}
	return out
}

// sight: the named parts of a state.
func (m *oneMemory) sight(names []string) string {
	parts := toldMemory(m.state())
	var told [][]int
	for _, row := range m.rows {
		for _, mark := range row {
			told = append(told, m.viewOf(mark.knows))
		}
	}
	parts["told"], parts["common"] = toldRows(told), toldInts(m.viewOf(m.shared))
	var out []string
	for _, name := range names {
		out = append(out, name+" "+parts[name])
	}
	return strings.Join(out, "; ")
}

func (m *oneMemory) waiting() []int {
	var out []int
	for _, w := range m.workers {
		if !w.hung && !w.isAt("end") {
			out = append(out, w.number)
		}
	}
	return out
}

func (m *oneMemory) isEnd() bool { return len(m.ready()) == 0 }

// end leans on the caller for a state that is one.
func (m *oneMemory) end() impl.End {
	s := m.state()
	e := impl.End{Bad: s.Bad, Stuck: m.waiting(), Regs: s.Regs}
	for _, row := range s.Cells {
		e.Cells = append(e.Cells, row[len(row)-1])
	}
	return e
}

// isOfKind: what Find asks of a state.
func (m *oneMemory) isOfKind(what int) bool {
	isHung := func(w *oneWorker) bool { return w.hung }
	switch what {
	case impl.FdBad:
		return m.bad
	case impl.FdStuck:
		return m.isEnd() && len(m.waiting()) > 0
	case impl.FdHung:
		return slices.ContainsFunc(m.workers, isHung)
	}
	return false
}

// endOrder is a list of numbers by which ends of one program are ordered. Behind Stuck stands what is less than each thread.
func endOrder(e impl.End) []int {
	out := []int{map[bool]int{true: 1}[e.Bad]}
	out = append(append(out, e.Stuck...), -1)
	return append(append(out, slices.Concat(e.Regs...)...), e.Cells...)
}

type oneState struct {
	memory *oneMemory
	sight  string
	row    []impl.Turn
	next   []string
}

type oneWorld map[string]*oneState

// rowOrder: shorter rows first, then turn by turn, by Thread, then by Choice.
func rowOrder(a, b []impl.Turn) int {
	if len(a) != len(b) {
		return cmp.Compare(len(a), len(b))
	}
	for i := range a {
		if a[i] != b[i] {
			return cmp.Or(cmp.Compare(a[i].Thread, b[i].Thread), cmp.Compare(a[i].Choice, b[i].Choice))
		}
	}
	return 0
}

// worldOf: all states of a right program that the named parts tell apart; nil if they are more than most.
func worldOf(p impl.Prog, most int, names []string) oneWorld {
	m := oneMemoryOf(p)
	layer := []*oneState{{memory: m, sight: m.sight(names)}}
	w := oneWorld{}
	for len(layer) > 0 {
		var found []*oneState
		for _, s := range layer {
			if w[s.sight] == nil {
				w[s.sight] = s
				found = append(found, s.steps(names)...)
			}
		}
		if len(w) > most {
			return nil
		}
		slices.SortFunc(found, func(a, b *oneState) int { return rowOrder(a.row, b.row) })
		layer = found
	}
	return w
}

func (s *oneState) steps(names []string) []*oneState {
	var out []*oneState
	for _, turn := range s.memory.ready() {
		m := s.memory.copied()
		m.take(turn)
		next := &oneState{memory: m, sight: m.sight(names), row: append(slices.Clip(s.row), turn)}
		s.next = append(s.next, next.sight)
		out = append(out, next)
	}
	return out
}

func wantWorld(p impl.Prog, most int) (oneWorld, int) {
	if !isOneProg(p) || most <= 0 || most >= 3001 {
		return nil, impl.ErrBad
	}
	w := worldOf(p, most, sightNames)
	if w == nil {
		return nil, impl.ErrFuel
	}
	return w, impl.OK
}

func (w oneWorld) report() impl.Report {
	r := impl.Report{States: len(w)}
	ends := map[string]impl.End{}
	for _, s := range w {
		r.Moves += len(s.next)
		for what, count := range map[int]*int{impl.FdBad: &r.Bad, impl.FdStuck: &r.Stuck, impl.FdHung: &r.Hung} {
			if s.memory.isOfKind(what) {
				*count++
			}
		}
		if s.memory.isEnd() {
			e := s.memory.end()
			ends[toldInts(endOrder(e))] = e
		}
	}
	r.Ends = slices.SortedFunc(maps.Values(ends), func(a, b impl.End) int { return slices.Compare(endOrder(a), endOrder(b)) })
	return r
}

// least: the row to a state that fits, or ErrNone.
func (w oneWorld) least(fits func(m *oneMemory) bool) ([]impl.Turn, int) {
	var rows [][]impl.Turn
	for _, s := range w {
		if fits(s.memory) {
			rows = append(rows, s.row)
		}
	}
	if len(rows) == 0 {
		return nil, impl.ErrNone
	}
	return slices.MinFunc(rows, rowOrder), impl.OK
}

func (w oneWorld) find(what int) ([]impl.Turn, int) {
	if what < 1 || what > 3 {
		return nil, impl.ErrKind
	}
	return w.least(func(m *oneMemory) bool { return m.isOfKind(what) })
}

func (w oneWorld) findEnd(e impl.End) ([]impl.Turn, int) {
	return w.least(func(m *oneMemory) bool { return m.isEnd() && isSameEnd(m.end(), e) })
}

func isSameEnd(a, b impl.End) bool {
	return a.Bad == b.Bad && slices.Equal(a.Stuck, b.Stuck) && slices.EqualFunc(a.Regs, b.Regs, slices.Equal[[]int]) && slices.Equal(a.Cells, b.Cells)
}

var mostRows, _ = new(big.Int).SetString("999999999999999999", 10)

// runs takes away, again and again, the states behind which all is counted: what is left then goes round.
func (w oneWorld) runs() (int, int) {
	counts := map[string]*big.Int{}
	isOpen := func(sight string) bool { return counts[sight] == nil }
	all := new(big.Int)
	for len(counts) < len(w) {
		before := len(counts)
		for sight, s := range w {
			if !isOpen(sight) || slices.ContainsFunc(s.next, isOpen) {
				continue
			}
			counts[sight] = new(big.Int)
			for _, next := range s.next {
				counts[sight].Add(counts[sight], counts[next])
			}
			if len(s.next) == 0 {
				counts[sight].SetInt64(1)
			}
			if len(s.row) == 0 {
				all = counts[sight]
			}
		}
		if len(counts) == before {
			return 0, impl.ErrLoop
		}
	}
	if all.Cmp(mostRows) > 0 {
		return 0, impl.ErrRange
	}
	return int(all.Int64()), impl.OK
}

// rowsOneByOne: all rows of turns to an end, the shorter ones first; false if they or their beginnings are more than most, and so if they go round.
func rowsOneByOne(p impl.Prog, most int) ([][]impl.Turn, bool) {
	type row struct {
		memory *oneMemory
		turns  []impl.Turn
	}
	var out [][]impl.Turn
	list := []row{{oneMemoryOf(p), nil}}
	for at := 0; at < len(list); at++ {
		if len(list) > most {
			return nil, false
		}
		ready := list[at].memory.ready()
		for _, turn := range ready {
			m := list[at].memory.copied()
			m.take(turn)
			list = append(list, row{m, append(slices.Clip(list[at].turns), turn)})
		}
		if len(ready) == 0 {
			out = append(out, list[at].turns)
		}
	}
	return out, true
}

func toldEnd(e impl.End) string {
	out := "fine"
	if e.Bad {
		out = "bad"
	}
	return out + ", stuck " + toldInts(e.Stuck[:min(len(e.Stuck), 20)]) + ", regs " + toldRegs(e.Regs[:min(len(e.Regs), 20)]) + ", cells " + toldInts(e.Cells[:min(len(e.Cells), 20)])
}

func toldEnds(ends []impl.End) string {
	var out []string
	for _, e := range ends {
		out = append(out, toldEnd(e))
	}
	return strings.Join(out, " | ")
}

func showReport(r impl.Report) string {
	return "states " + strconv.Itoa(r.States) + ", moves " + strconv.Itoa(r.Moves) + ", bad " + strconv.Itoa(r.Bad) + ", stuck " + strconv.Itoa(r.Stuck) + ", hung " + strconv.Itoa(r.Hung) + ", ends " + toldEnds(r.Ends)
}
