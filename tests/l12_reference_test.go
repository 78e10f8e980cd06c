package tests

import (
	"fmt"
	"maps"
	"math/big"
	"regexp"
	"slices"
	"strconv"
	"strings"

	"loop.example/g00045/impl"
)

// The second telling of chapter 13: what is right is asked field by field, texts are read by patterns, and a run is told of the words of each instruction, a view being the set of all messages that are known.

const cellNumber = `(0|-?[1-9][0-9]{0,17})`

var (
	cellOps    = []string{"", "load", "store", "swap", "add", "cas", "await", "fence", "set", "sum", "jump", "call", "ret", "assert"}
	cellOrders = []string{"", "relaxed", "acquire", "release", "both", "seq"}
	cellConds  = []string{"", "==", "!=", "<", "<="}
	// cellFields: of each instruction the fields that it names, in the order of its text.
	cellFields = []string{"", "Reg Cell Order", "Cell A Order", "Reg Cell A Order", "Reg Cell A Order", "Reg Cell A B Order", "Reg Cell Cond A Order", "", "Reg A", "Reg A", "A Cond B To", "To A", "A", "A Cond B"}
)

// opOrders: the orders that an instruction may have.
func opOrders(op int) []int {
	switch op {
	case 1, 6:
		return []int{1, 2, 5}
	case 2:
		return []int{1, 3, 5}
	case 3, 4, 5:
		return []int{1, 2, 3, 4, 5}
	}
	return nil
}

func isOneNumber(n int) bool { return -1e18 < n && n < 1e18 }

func isOneVal(v impl.Val) bool {
	return v.Reg == 0 && isOneNumber(v.Num) || v.Num == 0 && 1 <= v.Reg && v.Reg <= 6
}

func isOneIns(x impl.Ins, cells, code int) bool {
	if x.Op < 1 || x.Op > 13 {
		return false
	}
	isRight := map[string]bool{
		"Reg":   1 <= x.Reg && x.Reg <= 6,
		"Cell":  0 <= x.Cell && x.Cell < cells,
		"A":     isOneVal(x.A),
		"B":     isOneVal(x.B),
		"Order": slices.Contains(opOrders(x.Op), x.Order),
		"Cond":  1 <= x.Cond && x.Cond <= 4,
		"To":    0 <= x.To && (x.Op == 10 && x.To <= code || x.Op == 11 && x.To < 100),
	}
	isZero := map[string]bool{
		"Reg": x.Reg == 0, "Cell": x.Cell == 0, "A": x.A == impl.Val{}, "B": x.B == impl.Val{}, "Order": x.Order == 0, "Cond": x.Cond == 0, "To": x.To == 0,
	}
	named := strings.Fields(cellFields[x.Op])
	for field := range isRight {
		if isNamed := slices.Contains(named, field); isNamed && !isRight[field] || !isNamed && !isZero[field] {
			return false
		}
	}
	return true
}

func isOneProg(p impl.Prog) bool {
	if len(p.Init) < 1 || len(p.Init) > 8 || len(p.Threads) < 1 || len(p.Threads) > 4 {
		return false
	}
	for _, value := range p.Init {
		if !isOneNumber(value) {
			return false
		}
	}
	for _, code := range p.Threads {
		if len(code) > 40 {
			return false
		}
		for _, x := range code {
			if !isOneIns(x, len(p.Init), len(code)) {
				return false
			}
		}
	}
	return true
}

func wantVal(v impl.Val) string {
	if v.Reg == 0 {
		return fmt.Sprint(v.Num)
	}
	return fmt.Sprintf("r%d", v.Reg)
}

// wantIns: the text of a right instruction.
func wantIns(x impl.Ins) string {
	out := cellOps[x.Op]
	for _, field := range strings.Fields(cellFields[x.Op]) {
		switch field {
		case "Reg":
			out += fmt.Sprintf(" r%d", x.Reg)
		case "Cell":
			out += fmt.Sprintf(" c%d", x.Cell)
		case "A":
			out += " " + wantVal(x.A)
		case "B":
			out += " " + wantVal(x.B)
		case "Order":
			out += " " + cellOrders[x.Order]
		case "Cond":
			out += " " + cellConds[x.Cond]
		case "To":
			out += fmt.Sprintf(" %d", x.To)
		}
	}
	return out
}

func wantProgText(p impl.Prog) (string, int) {
	if !isOneProg(p) {
		return "", impl.ErrBad
	}
	out := "cells"
	for _, value := range p.Init {
		out += fmt.Sprintf(" %d", value)
	}
	out += "\n"
	for _, code := range p.Threads {
		out += "thread\n"
		for _, x := range code {
			out += "  " + wantIns(x) + "\n"
		}
	}
	return out, impl.OK
}

// linePatterns: of each instruction what its line must be like.
var linePatterns = func() []*regexp.Regexp {
	var out []*regexp.Regexp
	for op, word := range cellOps {
		pattern := `\A *` + word
		for _, field := range strings.Fields(cellFields[op]) {
			pattern += " +"
			switch field {
			case "Reg":
				pattern += `r(?P<Reg>[1-6])`
			case "Cell":
				pattern += `c(?P<Cell>[0-7])`
			case "A", "B":
				pattern += `(?P<` + field + `>r[1-6]|0|-?[1-9][0-9]{0,17})`
			case "Order":
				var words []string
				for _, order := range opOrders(op) {
					words = append(words, cellOrders[order])
				}
				pattern += `(?P<Order>` + strings.Join(words, "|") + `)`
			case "Cond":
				pattern += `(?P<Cond>==|!=|<=|<)`
			case "To":
				pattern += map[int]string{10: `(?P<To>0|[1-9][0-9]{0,17})`, 11: `(?P<To>0|[1-9][0-9]?)`}[op]
			}
		}
		out = append(out, regexp.MustCompile(pattern+` *\z`))
	}
	return out
}()

var (
	cellsPattern  = regexp.MustCompile(`\A *cells( +` + cellNumber + `){1,8} *\z`)
	threadPattern = regexp.MustCompile(`\A *thread *\z`)
)

func oneVal(word string) impl.Val {
	if n, isReg := strings.CutPrefix(word, "r"); isReg {
		return impl.Val{Reg: must(n)}
	}
	return impl.Val{Num: must(word)}
}

// must leans on a pattern that took the word.
func must(word string) int {
	n, err := strconv.Atoi(word)
	if err != nil {
		panic(err)
	}
	return n
}

// oneIns: the instruction of a line, if it is one in a program with so many cells.
func oneIns(line string, cells int) (impl.Ins, bool) {
	for op := 1; op < len(linePatterns); op++ {
		found := linePatterns[op].FindStringSubmatch(line)
		if found == nil {
			continue
		}
		x := impl.Ins{Op: op}
		for i, field := range linePatterns[op].SubexpNames() {
			switch field {
			case "Reg":
				x.Reg = must(found[i])
			case "Cell":
				x.Cell = must(found[i])
			case "A":
				x.A = oneVal(found[i])
			case "B":
				x.B = oneVal(found[i])
			case "Order":
				x.Order = slices.Index(cellOrders, found[i])
			case "Cond":
				x.Cond = slices.Index(cellConds, found[i])
			case "To":
				x.To = must(found[i])
			}
		}
		return x, x.Cell < cells
	}
	return impl.Ins{}, false
}

func wantReadProg(text string) (impl.Prog, int, int) {
	if len(text) > 65536 {
		return impl.Prog{}, impl.ErrLong, 0
	}
	var p impl.Prog
	lines := strings.Split(text, "\n")
	lineOf := map[[2]int]int{}
	for i, line := range lines {
		if at := strings.IndexByte(line, '#'); at >= 0 {
			line = line[:at]
		}
		last := len(p.Threads) - 1
		x, isIns := oneIns(line, len(p.Init))
		switch {
		case strings.Trim(line, " ") == "":
		case cellsPattern.MatchString(line) && len(p.Init) == 0:
			for _, word := range strings.Fields(line)[1:] {
				p.Init = append(p.Init, must(word))
			}
		case threadPattern.MatchString(line) && len(p.Init) > 0:
			if last == 3 {
				return impl.Prog{}, impl.ErrMany, i + 1
			}
			p.Threads = append(p.Threads, nil)
		case isIns && last >= 0:
			if len(p.Threads[last]) == 40 {
				return impl.Prog{}, impl.ErrMany, i + 1
			}
			lineOf[[2]int{last, len(p.Threads[last])}] = i + 1
			p.Threads[last] = append(p.Threads[last], x)
		default:
			return impl.Prog{}, impl.ErrSyntax, i + 1
		}
	}
	if len(p.Init) == 0 || len(p.Threads) == 0 {
		return impl.Prog{}, impl.ErrSyntax, len(lines)
	}
	for thread, code := range p.Threads {
		for at, x := range code {
			if x.Op == 10 && x.To > len(code) {
				return impl.Prog{}, impl.ErrRange, lineOf[[2]int{thread, at}]
			}
		}
	}
	return p, impl.OK, 0
}

// oneMark is a message; it knows itself.
type oneMark struct {
	cell, number, value int
	knows               marks
}

type marks map[*oneMark]bool

func (m marks) and(others marks) marks {
	out := maps.Clone(m)
	maps.Copy(out, others)
	return out
}

// newest: the greatest number of a known message of that cell; message 0 is known to all.
func (m marks) newest(cell int) int {
	out := 0
	for mark := range m {
		if mark.cell == cell {
			out = max(out, mark.number)
		}
	}
	return out
}

type oneWorker struct {
	number, at int
	code       [][]string
	regs       map[string]int
	knows      marks
	hung       bool
}

type oneMemory struct {
	rows    [][]*oneMark
	workers []*oneWorker
	shared  marks
	bad     bool
	calls   []impl.Call
	turns   int
}

// oneMemoryOf: of a right program, at its beginning.
func oneMemoryOf(p impl.Prog) *oneMemory {
	m := &oneMemory{shared: marks{}}
	for cell, value := range p.Init {
		m.rows = append(m.rows, []*oneMark{{cell: cell, value: value, knows: marks{}}})
	}
	for number, code := range p.Threads {
		w := &oneWorker{number: number, regs: map[string]int{}, knows: marks{}}
		for _, x := range code {
			w.code = append(w.code, strings.Fields(wantIns(x)))
		}
		m.workers = append(m.workers, w)
		m.rest(w)
	}
	return m
}

func (w *oneWorker) words() []string {
	if w.at == len(w.code) {
		return []string{"end"}
	}
	return w.code[w.at]
}

func (w *oneWorker) isAt(words ...string) bool { return slices.Contains(words, w.words()[0]) }

func (w *oneWorker) isSeq() bool { return w.isAt("fence") || slices.Contains(w.words(), "seq") }

func (w *oneWorker) has(orders ...string) bool {
	words := w.words()
	return slices.Contains(orders, words[len(words)-1])
}

func (w *oneWorker) of(word string) int {
	if word[0] == 'r' {
		return w.regs[word]
	}
	return must(word)
}

func isSo(left int, cond string, right int) bool {
	return cond == "==" && left == right || cond == "!=" && left != right || cond == "<" && left < right || cond == "<=" && left <= right
}

func summed(a, b int) int {
	return wrapped(new(big.Int).Add(big.NewInt(int64(a)), big.NewInt(int64(b))))
}

// rest: the quiet instructions up to the next step on memory.
func (m *oneMemory) rest(w *oneWorker) {
	for count := 0; w.isAt("set", "sum", "jump", "call", "ret", "assert"); count++ {
		if count == 100 {
			w.hung = true
			return
		}
		m.quiet(w, w.words())
	}
}

func (m *oneMemory) quiet(w *oneWorker, words []string) {
	w.at++
	switch words[0] {
	case "set":
		w.regs[words[1]] = w.of(words[2])
	case "sum":
		w.regs[words[1]] = summed(w.regs[words[1]], w.of(words[2]))
	case "jump":
		if isSo(w.of(words[1]), words[2], w.of(words[3])) {
			w.at = must(words[4])
		}
	case "call":
		m.calls = append(m.calls, impl.Call{Thread: w.number, Op: must(words[1]), Arg: w.of(words[2]), From: m.turns, To: -1})
	case "ret":
		for i := len(m.calls) - 1; i >= 0; i-- {
			if m.calls[i].Thread == w.number && m.calls[i].To == -1 {
				m.calls[i].To, m.calls[i].Ret = m.turns, w.of(words[1])
				return
			}
		}
	case "assert":
		m.bad = m.bad || !isSo(w.of(words[1]), words[2], w.of(words[3]))
	}
}

// cell: of the step on memory at which it stands.
func (w *oneWorker) cell() int {
	at := slices.IndexFunc(w.words(), func(word string) bool { return len(word) == 2 && word[0] == 'c' })
	return must(w.words()[at][1:])
}

// reads: the messages that its next turn may read, by Choice; a single nil if it is a fence.
func (m *oneMemory) reads(w *oneWorker) []*oneMark {
	switch {
	case w.hung || w.isAt("end"):
		return nil
	case w.isAt("fence"):
		return []*oneMark{nil}
	}
	row := m.rows[w.cell()]
	if w.isAt("store", "swap", "add", "cas") {
		if len(row) >= 50 {
			return nil
		}
		return row[len(row)-1:]
	}
	knows := w.knows
	if w.isSeq() {
		knows = knows.and(m.shared)
	}
	var out []*oneMark
	for _, mark := range row[knows.newest(w.cell()):] {
		if words := w.words(); words[0] == "load" || isSo(mark.value, words[3], w.of(words[4])) {
			out = append(out, mark)
		}
	}
	slices.Reverse(out)
	return out
}

func (m *oneMemory) ready() []impl.Turn {
	var out []impl.Turn
	for _, w := range m.workers {
		for choice := range m.reads(w) {
			out = append(out, impl.Turn{Thread: w.number, Choice: choice})
		}
	}
	return out
}

func (m *oneMemory) take(turn impl.Turn) bool {
	if !slices.Contains(m.ready(), turn) {
		return false
	}
	m.turns++
	w := m.workers[turn.Thread]
	old := m.reads(w)[turn.Choice]
	if w.isSeq() {
		w.knows = w.knows.and(m.shared)
	}
	if old != nil {
		m.touch(w, w.words(), old)
	}
	if w.isSeq() {
		m.shared = m.shared.and(w.knows)
	}
	w.at++
	m.rest(w)
	return true
}

func (m *oneMemory) touch(w *oneWorker, words []string, old *oneMark) {
	if words[0] == "store" {
		m.put(w, w.of(words[2]), nil)
		return
	}
	w.knows = w.knows.and(marks{old: true})
	if w.has("acquire", "both", "seq") {
		w.knows = w.knows.and(old.knows)
	}
	result := old.value
	switch words[0] {
	case "swap":
		m.put(w, w.of(words[3]), old.knows)
	case "add":
		m.put(w, summed(old.value, w.of(words[3])), old.knows)
	case "cas":
		result = 0
		if old.value == w.of(words[3]) {
			m.put(w, w.of(words[4]), old.knows)
			result = 1
		}
	}
	w.regs[words[1]] = result
}

func (m *oneMemory) put(w *oneWorker, value int, more marks) {
	cell := w.cell()
	mark := &oneMark{cell: cell, number: len(m.rows[cell]), value: value}
	own := marks{mark: true}
	m.rows[cell] = append(m.rows[cell], mark)
	w.knows = w.knows.and(own)
	mark.knows = own.and(more)
	if w.has("release", "both", "seq") {
		mark.knows = mark.knows.and(w.knows)
	}
}

func (m *oneMemory) state() impl.State {
	s := impl.State{Bad: m.bad, Calls: slices.Clone(m.calls)}
	for _, w := range m.workers {
		s.At, s.Hung = append(s.At, w.at), append(s.Hung, w.hung)
		var regs, seen []int
		for i := range 6 {
			regs = append(regs, w.regs["r"+strconv.Itoa(i+1)])
		}
		for cell := range m.rows {
			seen = append(seen, w.knows.newest(cell))
		}
		s.Regs, s.Seen = append(s.Regs, regs), append(s.Seen, seen)
	}
	for _, row := range m.rows {
		var values []int
		for _, mark := range row {
			values = append(values, mark.value)
		}
		s.Cells = append(s.Cells, values)
	}
	return s
}

// wantPlayed: the memory behind these turns, or a code and the number of a turn.
func wantPlayed(p impl.Prog, turns []impl.Turn) (*oneMemory, int, int) {
	switch {
	case len(turns) > 4096:
		return nil, impl.ErrLong, 0
	case !isOneProg(p):
		return nil, impl.ErrBad, 0
	case len(turns) > 200:
		return nil, impl.ErrMany, 0
	}
	m := oneMemoryOf(p)
	for i, turn := range turns {
		if !m.take(turn) {
			return nil, impl.ErrState, i
		}
	}
	return m, impl.OK, 0
}
